/-
  The law's Do: a change, of a graph and of the document's net.
-/
import Derived.Test.YtlfihaajnjeaeaaGreatDoorE6
import Derived.Test.YtlfihaajnjeaeaaGreatDoorE4
import Derived.Test.YtlfihaajnjeaeaaGreatDoorD1
namespace Go.Proofs.YtlfihaajnjeaeaaGreatDoor
open Go.RowKit

/-- A change: its kind, what it names, what it costs. -/
structure ActD where
  k : Int
  a : Int
  i : Int
  o : Int
  w : Int
/-- The net behind it, and what is wrong with it. -/
def actN (n : NetD) (x : ActD) : NetD × Flt := if x.k = 0 then setN n x.a x.w else bendN n x.a x.i x.o x.w
theorem actN_grn {n : NetD} (h : GrN n) (x : ActD) : GrN (actN n x).1 := by
  unfold actN
  split
  · exact setN_grn h _ _
  · exact bendN_grn h _ _ _ _
def actV (x : ActD) : Value := .agg #[.int .i64 x.k, .int .i64 x.a, .int .i64 x.i, .int .i64 x.o, .int .i64 x.w]
theorem rset_errF {w : World} {v : Value} {n : NetD} (h : NetV w v n) (a c : Int) (c0 : -9223372036854775808 ≤ c) (c1 : c ≤ 9223372036854775807) {F : Flt} (hF : (setN n a c).2 = F) (hne : ¬ F.2 = 0) :
    Calls Tryz.prog 21 #[v, .int .i64 a, .int .i64 c] w fun e w' => ∃ wv, e = .returned (.tuple #[v, wv]) ∧ WrongV w' wv F.1 F.2 ∧ Below w.heap.size w w' := by
  unfold setN at hF
  cases ha : n.there a with
  | false =>
    rw [ha, if_pos rfl] at hF
    subst hF
    exact rset_name h a c ha
  | true =>
    rw [ha, if_neg (by simp)] at hF
    cases hw : wgt c with
    | true =>
      rw [hw, if_neg (by simp)] at hF
      subst hF
      exact absurd rfl hne
    | false =>
      rw [hw, if_pos rfl] at hF
      subst hF
      exact rset_range h a c c0 c1 ha hw
theorem rbend_errF {w : World} {v : Value} {n : NetD} (h : NetV w v n) (hn : GrN n) (t x y c : Int) (c0 : -9223372036854775808 ≤ c) (c1 : c ≤ 9223372036854775807) {F : Flt} (hF : (bendN n t x y c).2 = F) (hne : ¬ F.2 = 0) :
    Calls Tryz.prog 24 #[v, .int .i64 t, .int .i64 x, .int .i64 y, .int .i64 c] w fun e w' => ∃ wv, e = .returned (.tuple #[v, wv]) ∧ WrongV w' wv F.1 F.2 ∧ Below w.heap.size w w' := by
  unfold bendN at hF
  by_cases ht : t < 0 ∨ n.t.length ≤ t
  · rw [if_pos ht] at hF
    subst hF
    by_cases h0 : t < 0
    · exact rbend_name0 h t x y c h0
    · exact rbend_name1 h t x y c h0 (by omega)
  · rw [if_neg ht] at hF
    obtain ⟨k, rfl⟩ : ∃ k : Nat, t = k := ⟨t.toNat, by omega⟩
    have hk : k < n.t.length := by omega
    rw [NetGood.tab_at k hk] at hF
    by_cases he : (withW n.t[k].1 n.t[k].2.1 x y c).2 = 0
    · rw [if_pos he] at hF
      subst hF
      exact absurd rfl hne
    · rw [if_neg he] at hF
      subst hF
      exact rbend_with h hn k hk x y c c0 c1 he
theorem setN_ok {n : NetD} {a c : Int} (h : (setN n a c).2.2 = 0) : ∃ (k : Nat) (hk : k < n.a.length), a = k ∧ wgt c = true ∧ (setN n a c).1 = ⟨n.v, n.a.set k (n.a[k].1, n.a[k].2.1, c), n.t⟩ := by
  unfold setN at h ⊢
  cases ha : n.there a with
  | false => rw [ha, if_pos rfl] at h; simp at h
  | true =>
    cases hw : wgt c with
    | false => rw [ha, if_neg (by simp), hw, if_pos rfl] at h; simp at h
    | true =>
      obtain ⟨k, rfl, hk⟩ := there_of ha
      refine ⟨k, hk, rfl, rfl, ?_⟩
      rw [if_neg (by simp), if_neg (by simp), NetGood.arc_at k hk]
      rfl
theorem bendN_ok {n : NetD} {t x y c : Int} (h : (bendN n t x y c).2.2 = 0) : ∃ (k : Nat) (hk : k < n.t.length), t = k ∧ wgt c = true ∧ (0 ≤ x ∧ x < n.t[k].1 ∧ 0 ≤ y ∧ y < n.t[k].2.1) ∧ (bendN n t x y c).1 = ⟨n.v, n.a, n.t.set k (n.t[k].1, n.t[k].2.1, n.t[k].2.2.set (x * n.t[k].2.1 + y).toNat c)⟩ := by
  unfold bendN at h ⊢
  by_cases ht : t < 0 ∨ n.t.length ≤ t
  · rw [if_pos ht] at h; simp at h
  · rw [if_neg ht] at h ⊢
    obtain ⟨k, rfl⟩ : ∃ k : Nat, t = k := ⟨t.toNat, by omega⟩
    have hk : k < n.t.length := by omega
    rw [NetGood.tab_at k hk] at h ⊢
    by_cases he : (withW n.t[k].1 n.t[k].2.1 x y c).2 = 0
    · rw [if_pos he] at h ⊢
      rcases withW_or n.t[k].1 n.t[k].2.1 x y c with ⟨-, h1, h2⟩ | h3
      · exact ⟨k, hk, rfl, h2, h1, by rw [withT_ok he]; rfl⟩
      · exact absurd he h3
    · rw [if_neg he] at h
      exact absurd h he
/-- While an act is done, in a region that draws its order: the graph as it was, or as it will be. -/
structure GG.DoS (j : Nat) (P : Nat → Prop) (va vt : Value) (p : Nat) (n m : NetD) (w0 W0 : World) (dn : Nat → Bool) (_ : Unit) (w : World) : Prop where
  k : Keep (Off [va, vt]) W0 w
  b : Below w0.heap.size w0 w
  g0 : dn j = false → GraphAt P w p n va vt
  g1 : dn j = true → GraphAt P w p m va vt
def GG.RlT (_ : Unit) (_ : World) (_ : Unit) (_ : World) : Prop := True
theorem GG.DoS.step {j : Nat} {P : Nat → Prop} {va vt : Value} {p : Nat} {n m : NetD} {w0 W0 : World} {dn : Nat → Bool} {u : Unit} {w w' : World} (h : GG.DoS j P va vt p n m w0 W0 dn u w) {i : Nat} (hi : j ≠ i) (hb : Below w.heap.size w w') : GG.DoS j P va vt p n m w0 W0 (GG.doneG dn i) u w' := by
  have e : GG.doneG dn i j = dn j := if_neg hi
  exact ⟨h.k.trans (Keep.of hb), bOn6 h.b hb, fun h1 => (h.g0 (by rw [← e]; exact h1)).old hb, fun h1 => (h.g1 (by rw [← e]; exact h1)).old hb⟩
theorem GG.DoS.still {j : Nat} {P : Nat → Prop} {va vt : Value} {p : Nat} {n m : NetD} {w0 W0 : World} {i : Nat} (hi : j ≠ i) : GG.Still (GG.DoS j P va vt p n m w0 W0) GG.RlT i := ⟨fun _ _ _ h => h.step hi (Below.refl _ _), fun _ _ => trivial⟩
theorem GG.DoS.start {j : Nat} {P : Nat → Prop} {va vt : Value} {p : Nat} {n m : NetD} {w0 W0 : World} (h : GraphAt P W0 p n va vt) (hb : Below w0.heap.size w0 W0) : GG.DoS j P va vt p n m w0 W0 (fun _ => false) () W0.drew :=
  ⟨Keep.of (Below.refl _ _).drew, hb.drew, fun _ => h.old (Below.refl _ _).drew, fun h => by cases h⟩
theorem GG.DoS.put {j : Nat} {P : Nat → Prop} {va vt : Value} {p : Nat} {n m : NetD} {w0 W0 : World} {dn : Nat → Bool} {u : Unit} {w w' : World} (h : GG.DoS j P va vt p n m w0 W0 dn u w) (hg : GraphAt P w' p m va vt) (hk : Keep (Off [va, vt]) w w') (ho : ∀ b, b < w0.heap.size → Off [va, vt] b) : GG.DoS j P va vt p n m w0 W0 (GG.doneG dn j) u w' :=
  ⟨h.k.trans hk, h.b.trans (hk.below ho h.b.size), fun e => (by rw [show GG.doneG dn j j = true from if_pos rfl] at e; cases e), fun _ => hg⟩
theorem Keep.trans2 {P : Nat → Prop} {u v w : World} (h : Keep P u v) (k : Keep (fun b => b < u.heap.size) v w) : Keep P u w :=
  ⟨k.os.trans h.os, k.tape.trans h.tape, k.output.trans h.output, Nat.le_trans h.size k.size, fun i hi hp => (k.block i (Nat.lt_of_lt_of_le hi h.size) hi).trans (h.block i hi hp)⟩
theorem NetA.both {P : Nat → Prop} {w : World} {v : Value} {n : NetD} (h : NetA P w v n) : NetA (fun b => P b ∧ b < w.heap.size) w v n := by
  obtain ⟨uv, ua, ut, e, ⟨h1, a1⟩, ⟨h2, a2⟩, h3⟩ := h
  refine ⟨uv, ua, ut, e, ⟨h1, a1.both h1.av⟩, ⟨h2, a2.both h2.av⟩, ?_⟩
  rcases h3 with h | ⟨hl, b, o, c, k1, k2, k3, hc⟩
  · exact Or.inl h
  · refine Or.inr ⟨hl, b, o, c, k1, k2, k3, fun i hi => ?_⟩
    obtain ⟨hp, u, x, y, z, k, ha⟩ := hc i hi
    exact ⟨⟨hp, World.block_lt_of_cell? w _ x⟩, u, x, y, z, k, ha.both k.av⟩
section
variable {vs : List Value} {w : World} {p : Nat} {n : NetD} {va vt u : Value}

set_option maxHeartbeats 8000000 in
set_option maxRecDepth 100000 in
theorem do6_seterr {w0 : World} (hg : ErrT w0) (hb0 : Below w0.heap.size w0 w) (ho : ∀ b, b < w0.heap.size → Off [va, vt] b) (h : GraphAt (Off vs) w p n va vt) (hn : GrN n) (hu : NetA (Off vs) w u n) (ha : va ∈ vs) (ht : vt ∈ vs) (hm : ∀ v ∈ vs, MutR w v) (x : ActD) (c0 : -9223372036854775808 ≤ x.w) (c1 : x.w ≤ 9223372036854775807) (hk : x.k = 0) (F : Flt) (hF : (setN n x.a x.w).2 = F) (hne : ¬ F.2 = 0) :
    Calls Tryz.prog 7 #[gp p, u, actV x] w fun e w' => ∃ u', e = .returned (.tuple #[u', .bool true]) ∧ NetA (Off vs) w' u' n ∧ GraphAt (Off vs) w' p n va vt ∧ Keep (Off [va, vt]) w w' := by
  have hk0 : (x.k == 0) = true := by simpa using hk
  obtain ⟨vq, aq, tq, vc, ac, tc, rfl, -⟩ := hu.net.shape
  obtain ⟨xk, xa, xi, xo, xw⟩ := x
  simp only [] at c0 c1 hk0 hF ⊢
  have HG := Lib.hid hg
  have HN := Lib.hid hn
  have HO := Lib.hid ho
  have HA := Lib.hid ha
  have HT := Lib.hid ht
  have HM := Lib.hid hm
  have HC0 := Lib.hid (And.intro c0 c1)
  have HF := Lib.hid hF
  have HNE := Lib.hid hne
  have HFL : Hid (1 ≤ F.1.length ∧ F.1.length ≤ 2 ∧ ¬ F.2 = 0) := Lib.hid (by rw [← hF]; rcases setN_flt n xa xw with h | h; exact absurd (by rw [← hF]; exact h.2) hne; exact h)
  have hu1 : NetA (fun b => Off vs b ∧ b < w.heap.size) w (netVal n vq aq tq vc ac tc) n := hu.both
  clear hg hn ho ha ht hm c0 c1 hk hF hne
  unfold actV
  go_enter Tryz.func7, Tryz.ntmps7
  go_wp2_with fail
  obtain ⟨W0, hW0⟩ := named (((w.alloc (.cells #[.slice vq n.v.length vc, .slice aq n.a.length ac, .slice tq n.t.length tc] 26)).alloc (.cells #[.int .i64 xk, .int .i64 xa, .int .i64 xi, .int .i64 xo, .int .i64 xw] 36)).alloc (.cells #[.slice none 0 0, .slice none 0 0, .slice none 0 0] 26))
  rw [← hW0]
  have hbw : Below w.heap.size w W0 := by rw [hW0]; exact (below_alloc2 _ _).alloc (by simp; omega) _
  have BW := Lib.hid hbw
  have KX : Hid (Blk W0 (w.heap.size + 1) #[.int .i64 xk, .int .i64 xa, .int .i64 xi, .int .i64 xo, .int .i64 xw] 36) := by rw [hW0]; exact Lib.hid ((Blk.new _ _ _ _ (by simp)).old _)
  have KR : Hid (Blk W0 (w.heap.size + 1 + 1) #[.slice none 0 0, .slice none 0 0, .slice none 0 0] 26) := by rw [hW0]; exact Lib.hid (Blk.new _ _ _ _ (by simp))
  have B0 := Lib.hid (bOn6 hb0 hbw)
  have hgb : GraphAt (fun b => Off vs b ∧ b ≠ w.heap.size + 1 + 1) w p n va vt := h.both.mono (fun b h => ⟨h.1, by have := h.2; omega⟩)
  have G0 := Lib.hid (hgb.old hbw)
  have U0 := Lib.hid (hu1.old hbw)
  have M0 : Hid (∀ v ∈ vs, MutR W0 v) := Lib.hid (fun v hv => (HM.out v hv).old hbw)
  clear hW0 hbw hb0 h hu hu1 hgb
  refine (rset_errF U0.out.net xa xw HC0.out.1 HC0.out.2 HF.out HNE.out).mono ?_
  rintro e w1 ⟨wv, rfl, hW, hb⟩
  obtain ⟨qw, mw, cw, rfl⟩ := hW.shape
  have HW := Lib.hid hW
  have HB := Lib.hid hb
  clear hW hb
  go_wp2_with fail
  obtain ⟨W1, hW1⟩ := named ((w1.alloc (.cells #[.slice vq n.v.length vc, .slice aq n.a.length ac, .slice tq n.t.length tc] 26)).alloc (.cells #[.slice qw mw cw, .int .i64 F.2] 62))
  rw [← hW1]
  have hb1 : Below w1.heap.size w1 W1 := by rw [hW1]; exact below_alloc2 _ _
  have K8 : Hid (Blk W1 w1.heap.size #[.slice vq n.v.length vc, .slice aq n.a.length ac, .slice tq n.t.length tc] 26) := by rw [hW1]; exact Lib.hid ((Blk.new _ _ _ _ rfl).old _)
  have K9 : Hid (Blk W1 (w1.heap.size + 1) #[.slice qw mw cw, .int .i64 F.2] 62) := by rw [hW1]; exact Lib.hid (Blk.new _ _ _ _ (by simp))
  have HB1 := Lib.hid (bOn6 HB.out hb1)
  have HW1 := Lib.hid (HW.out.below hb1)
  clear hW1 hb1 HW HB
  refine' GG.wp_thenL _ 9 (GG.SB W1) [[], [], [], [2], [], [4], [1, 2, 3, 4, 5], [], [1, 2, 3, 4, 5, 6, 7]] (GG.Fact.lit (Rl := GG.RlB) _ :: GG.Fact.lit (Rl := GG.RlB) _ :: GG.Fact.lit (Rl := GG.RlB) _ :: GG.Fact.lit (Rl := GG.RlB) _ :: GG.Fact.lit (Rl := GG.RlB) _ :: GG.Fact.lit (Rl := GG.RlB) _ :: GG.Fact.prop (Rl := GG.RlB) _ _ :: GG.Fact.lit (Rl := GG.RlB) _ :: GG.Fact.lit (Rl := GG.RlB) _ :: []) (by kernel_rfl) rfl (by kernel_rfl) (()) ((Below.refl _ _).drew) ?seqseterr
  case' seqseterr => skip
  iterate 6 (apply GG.grow_lit (GG.SB.still W1 _); (case hf => rfl); (case hw => rfl); (case hrun => (intro w' hS; (obtain ⟨dn, s, hS⟩ := hS); (have hS : Below W1.heap.size W1 w' := hS); (obtain ⟨a0, a1, a2, -, -, -⟩ := (K8.out.keep hS).o3); (obtain ⟨d0, d1, -, -⟩ := (K9.out.keep hS).o2); (obtain ⟨x0, x1, x2, x3, x4, -⟩ := Blk.o5 (KX.out.keep (HB1.out.trans (hS.mono HB1.out.size)))); clear hS; go_simp; first | done | exact rfl)); (case hc => (first | (simp only [Act.put, List.setIfInBounds_toArray, List.set_cons_zero, List.set_cons_succ]; first | done | exact rfl) | rfl)))
  (refine' GG.grow_any_call (p := fun v _ w => FaultV w v F.1 F.2) (hp := fun v s w s' w' h hb => h.below hb) rfl Tryz.func23 (by kernel_rfl) rfl rfl ?wtseterr6 ?runseterr6 ?putseterr6 ?nextseterr6; (case wtseterr6 => rfl); (case runseterr6 => (intro dn s w' hS hd H; (have hS : Below W1.heap.size W1 w' := hS); exact (vSetE (G0.out.old (HB1.out.trans (hS.mono HB1.out.size))) xa xw HC0.out.1 HC0.out.2 HF.out HNE.out).mono (fun e w2 ⟨v, h1, h2, h3⟩ => ⟨v, (), h1, h2, hS.trans (h3.mono hS.size), h3, h3.size⟩))); (case putseterr6 => (intro v; (simp only [Act.put, List.setIfInBounds_toArray, List.set_cons_zero, List.set_cons_succ]; first | done | exact rfl))); (case' nextseterr6 => intro v6))
  (refine' GG.grow_lit (GG.SB.still W1 _) rfl ?wtseterr7 ?runseterr7 ?putseterr7 ?nextseterr7; (case wtseterr7 => rfl); (case runseterr7 => (intro w' hS; (obtain ⟨dn, s, hS⟩ := hS); (have hS : Below W1.heap.size W1 w' := hS); (obtain ⟨a0, a1, a2, -, -, -⟩ := (K8.out.keep hS).o3); (obtain ⟨d0, d1, -, -⟩ := (K9.out.keep hS).o2); (obtain ⟨x0, x1, x2, x3, x4, -⟩ := Blk.o5 (KX.out.keep (HB1.out.trans (hS.mono HB1.out.size)))); clear hS; go_simp; first | done | exact rfl)); (case putseterr7 => (first | (simp only [Act.put, List.setIfInBounds_toArray, List.set_cons_zero, List.set_cons_succ]; first | done | exact rfl) | rfl)); (case' nextseterr7 => skip))
  (refine' GG.grow_lit_call (u := .bool true) rfl Tryz.func22 (by kernel_rfl) rfl rfl ?wtseterr8 ?runseterr8 ?putseterr8 ?nextseterr8; (case wtseterr8 => rfl); (case runseterr8 => (intro dn s w' hS hd H; (have hS : Below W1.heap.size W1 w' := hS); exact (tells_post _ _ F.1 F.2 w' (HG.out.below HG.out.lt (bOn6 (bOn6 B0.out HB1.out) hS)) (H 6 (by decide)) (HW1.out.below hS) (Or.inr HFL.out)).mono (fun e w2 h => ⟨(), h.1, hS.trans (h.2.mono hS.size), h.2, h.2.size⟩))); (case putseterr8 => (first | (simp only [Act.put, List.setIfInBounds_toArray, List.set_cons_zero, List.set_cons_succ]; first | done | exact rfl) | rfl)); (case' nextseterr8 => skip))
  intro dn s w2 hS _ _
  have hS : Below W1.heap.size W1 w2 := hS
  have B2 := HB1.out.trans (hS.mono HB1.out.size)
  have kr := KR.out.keep B2
  have BF := bOn6 BW.out B2
  have G2 := G0.out.old B2
  have U2 := U0.out.old B2
  clear hS
  have KB : Keep (fun b => b ≠ w.heap.size + 1 + 1) w2 (((w2.setCell ⟨w.heap.size + 1 + 1, 0, none⟩ (.slice vq n.v.length vc)).setCell ⟨w.heap.size + 1 + 1, 1, none⟩ (.slice aq n.a.length ac)).setCell ⟨w.heap.size + 1 + 1, 2, none⟩ (.slice tq n.t.length tc)) := (((Keep.refl _ _).setCell (fun h => h rfl) _ _).setCell (fun h => h rfl) _ _).setCell (fun h => h rfl) _ _
  have UF := Lib.hid (U2.mono (Q := fun b => Off vs b ∧ b ≠ w.heap.size + 1 + 1) (fun b h => ⟨h.1, by have := h.2; omega⟩))
  have UFF : Hid (NetA (Off vs) (((w2.setCell ⟨w.heap.size + 1 + 1, 0, none⟩ (.slice vq n.v.length vc)).setCell ⟨w.heap.size + 1 + 1, 1, none⟩ (.slice aq n.a.length ac)).setCell ⟨w.heap.size + 1 + 1, 2, none⟩ (.slice tq n.t.length tc)) (.agg #[.slice vq n.v.length vc, .slice aq n.a.length ac, .slice tq n.t.length tc]) n) := Lib.hid (by have h := (UF.out.keep (KB.mono (fun b h => h.2))).mono (Q := Off vs) (fun b h => h.1); (try simp only [List.length_set] at h); exact h)
  have GF : Hid (GraphAt (Off vs) (((w2.setCell ⟨w.heap.size + 1 + 1, 0, none⟩ (.slice vq n.v.length vc)).setCell ⟨w.heap.size + 1 + 1, 1, none⟩ (.slice aq n.a.length ac)).setCell ⟨w.heap.size + 1 + 1, 2, none⟩ (.slice tq n.t.length tc)) p n va vt) := Lib.hid (by
    exact (G2.keep KB (fun b h => h.2) (fun b e => by have := (HM.out va HA.out).lt e; omega) (fun b e => by have := (HM.out vt HT.out).lt e; omega)).mono (fun b h => h.1))
  have KFF : Hid (Keep (Off [va, vt]) w (((w2.setCell ⟨w.heap.size + 1 + 1, 0, none⟩ (.slice vq n.v.length vc)).setCell ⟨w.heap.size + 1 + 1, 1, none⟩ (.slice aq n.a.length ac)).setCell ⟨w.heap.size + 1 + 1, 2, none⟩ (.slice tq n.t.length tc))) := Lib.hid (by
    have hK2 : Keep (fun b => b < w.heap.size) w2 (((w2.setCell ⟨w.heap.size + 1 + 1, 0, none⟩ (.slice vq n.v.length vc)).setCell ⟨w.heap.size + 1 + 1, 1, none⟩ (.slice aq n.a.length ac)).setCell ⟨w.heap.size + 1 + 1, 2, none⟩ (.slice tq n.t.length tc)) := KB.mono (fun b h => by omega)
    exact (Keep.of BF).trans2 hK2)
  obtain ⟨r0, r1, r2, f0, f1, f2⟩ := kr.o3
  have lr := kr.lt
  clear kr KB G2 U2 UF
  refine wpAny_ready (rs := [9]) (by kernel_rfl) (by simp) (AllReady.cons rfl (fun K hK => ?_) AllReady.nil)
  go_simp
  refine hK _ _ ?_
  clear hK K
  refine wpAny_ready (rs := [10]) (by kernel_rfl) (by simp) (AllReady.cons rfl (fun K hK => ?_) AllReady.nil)
  go_simp
  refine hK _ _ ?_
  clear hK K
  refine wpAny_done (by kernel_rfl) ?_ _
  go_wp2_with fail
  exact bodyPost_ret (v := .tuple #[.agg #[.slice vq n.v.length vc, .slice aq n.a.length ac, .slice tq n.t.length tc], .bool true]) (by simp [results, Tryz.results7, go_sem]; go_simp) rfl ⟨_, rfl, UFF.out, GF.out, KFF.out⟩

set_option maxHeartbeats 8000000 in
set_option maxRecDepth 100000 in
theorem do6_setok {w0 : World} (hg : ErrT w0) (hb0 : Below w0.heap.size w0 w) (ho : ∀ b, b < w0.heap.size → Off [va, vt] b) (h : GraphAt (Off vs) w p n va vt) (hn : GrN n) (hu : NetA (Off vs) w u n) (ha : va ∈ vs) (ht : vt ∈ vs) (hm : ∀ v ∈ vs, MutR w v) (x : ActD) (c0 : -9223372036854775808 ≤ x.w) (c1 : x.w ≤ 9223372036854775807) (hk : x.k = 0) (k : Nat) (hka : k < n.a.length) (hxa : x.a = k) (hc : wgt x.w = true) :
    Calls Tryz.prog 7 #[gp p, u, actV x] w fun e w' => ∃ u', e = .returned (.tuple #[u', .bool true]) ∧ NetA (Off vs) w' u' ⟨n.v, n.a.set k (n.a[k].1, n.a[k].2.1, x.w), n.t⟩ ∧ GraphAt (Off vs) w' p ⟨n.v, n.a.set k (n.a[k].1, n.a[k].2.1, x.w), n.t⟩ va vt ∧ Keep (Off [va, vt]) w w' := by
  have hk0 : (x.k == 0) = true := by simpa using hk
  obtain ⟨vq, aq, tq, vc, ac, tc, rfl, -⟩ := hu.net.shape
  obtain ⟨xk, xa, xi, xo, xw⟩ := x
  simp only [] at c0 c1 hk0 hxa hc ⊢
  subst hxa
  have HG := Lib.hid hg
  have HN := Lib.hid hn
  have HO := Lib.hid ho
  have HA := Lib.hid ha
  have HT := Lib.hid ht
  have HM := Lib.hid hm
  have HC0 := Lib.hid (And.intro c0 c1)
  have HC := Lib.hid hc
  have hu1 : NetA (fun b => Off vs b ∧ b < w.heap.size) w (netVal n vq aq tq vc ac tc) n := hu.both
  clear hg hn ho ha ht hm c0 c1 hk hc
  unfold actV
  go_enter Tryz.func7, Tryz.ntmps7
  go_wp2_with fail
  obtain ⟨W0, hW0⟩ := named (((w.alloc (.cells #[.slice vq n.v.length vc, .slice aq n.a.length ac, .slice tq n.t.length tc] 26)).alloc (.cells #[.int .i64 xk, .int .i64 k, .int .i64 xi, .int .i64 xo, .int .i64 xw] 36)).alloc (.cells #[.slice none 0 0, .slice none 0 0, .slice none 0 0] 26))
  rw [← hW0]
  have hbw : Below w.heap.size w W0 := by rw [hW0]; exact (below_alloc2 _ _).alloc (by simp; omega) _
  have BW := Lib.hid hbw
  have KX : Hid (Blk W0 (w.heap.size + 1) #[.int .i64 xk, .int .i64 k, .int .i64 xi, .int .i64 xo, .int .i64 xw] 36) := by rw [hW0]; exact Lib.hid ((Blk.new _ _ _ _ (by simp)).old _)
  have KR : Hid (Blk W0 (w.heap.size + 1 + 1) #[.slice none 0 0, .slice none 0 0, .slice none 0 0] 26) := by rw [hW0]; exact Lib.hid (Blk.new _ _ _ _ (by simp))
  have B0 := Lib.hid (bOn6 hb0 hbw)
  have hgb : GraphAt (fun b => Off vs b ∧ b ≠ w.heap.size + 1 + 1) w p n va vt := h.both.mono (fun b h => ⟨h.1, by have := h.2; omega⟩)
  have G0 := Lib.hid (hgb.old hbw)
  have U0 := Lib.hid (hu1.old hbw)
  have M0 : Hid (∀ v ∈ vs, MutR W0 v) := Lib.hid (fun v hv => (HM.out v hv).old hbw)
  clear hW0 hbw hb0 h hu hu1 hgb
  refine (rset_ok (Q := fun b => Off vs b ∧ b ≠ w.heap.size + 1 + 1) U0.out.net HN.out (fun w' hb b cs t hk h1 h2 h3 => ⟨off_blk (fun v hv => (M0.out v hv).old hb) hk h1 h2, fun e => by subst e; exact h3 (by have := (KR.out.keep hb); unfold Blk at this hk; rw [this] at hk; injection hk with hk; injection hk with _ hk)⟩) k hka xw HC.out).mono ?_
  rintro e w1 ⟨uv, rfl, hU, hb⟩
  obtain ⟨vq2, aq2, tq2, vc2, ac2, tc2, rfl, -⟩ := hU.net.shape
  simp only [List.length_set]
  have HU := Lib.hid hU
  have HB := Lib.hid hb
  clear hU hb
  go_wp2_with fail
  obtain ⟨W1, hW1⟩ := named ((w1.alloc (.cells #[.slice vq2 n.v.length vc2, .slice aq2 n.a.length ac2, .slice tq2 n.t.length tc2] 26)).alloc (.cells #[.slice none 0 0, .int .i64 0] 62))
  rw [← hW1]
  have hb1 : Below w1.heap.size w1 W1 := by rw [hW1]; exact below_alloc2 _ _
  have K8 : Hid (Blk W1 w1.heap.size #[.slice vq2 n.v.length vc2, .slice aq2 n.a.length ac2, .slice tq2 n.t.length tc2] 26) := by rw [hW1]; exact Lib.hid ((Blk.new _ _ _ _ rfl).old _)
  have K9 : Hid (Blk W1 (w1.heap.size + 1) #[.slice none 0 0, .int .i64 0] 62) := by rw [hW1]; exact Lib.hid (Blk.new _ _ _ _ (by simp))
  have HB1 := Lib.hid (bOn6 HB.out hb1)
  have U1 := Lib.hid (HU.out.old hb1)
  have KX1 := Lib.hid (KX.out.keep HB1.out)
  have KR1 := Lib.hid (KR.out.keep HB1.out)
  have M1 : Hid (∀ v ∈ vs, MutR W1 v) := Lib.hid (fun v hv => (M0.out v hv).old HB1.out)
  have DS0 := Lib.hid (GG.DoS.start (j := 6) (m := ⟨n.v, n.a.set k (n.a[k].1, n.a[k].2.1, xw), n.t⟩) (G0.out.old HB1.out) (bOn6 B0.out HB1.out))
  have S2 : Hid (∀ v ∈ [va, vt], v ∈ vs) := Lib.hid (by intro v hv; simp at hv; rcases hv with rfl | rfl; exact HA.out; exact HT.out)
  have M2 : Hid (∀ v ∈ [va, vt], MutR W1 v) := Lib.hid (fun v hv => M1.out v (S2.out v hv))
  clear hW1 hb1 HU HB
  refine' GG.wp_thenL _ 9 (GG.DoS 6 (fun b => Off vs b ∧ b ≠ w.heap.size + 1 + 1) va vt p n ⟨n.v, n.a.set k (n.a[k].1, n.a[k].2.1, xw), n.t⟩ w0 W1) [[], [], [], [2], [], [4], [1, 2, 3, 4, 5], [], [1, 2, 3, 4, 5, 6, 7]] (GG.Fact.lit (Rl := GG.RlT) _ :: GG.Fact.lit (Rl := GG.RlT) _ :: GG.Fact.lit (Rl := GG.RlT) _ :: GG.Fact.lit (Rl := GG.RlT) _ :: GG.Fact.lit (Rl := GG.RlT) _ :: GG.Fact.lit (Rl := GG.RlT) _ :: GG.Fact.lit (Rl := GG.RlT) _ :: GG.Fact.lit (Rl := GG.RlT) _ :: GG.Fact.lit (Rl := GG.RlT) _ :: []) (by kernel_rfl) rfl (by kernel_rfl) (()) (DS0.out) ?seqsetok
  case' seqsetok => skip
  iterate 6 (apply GG.grow_lit (GG.DoS.still (by decide)); (case hf => rfl); (case hw => rfl); (case hrun => (intro w' hS; (obtain ⟨dn, s, hS⟩ := hS); (obtain ⟨a0, a1, a2, -, -, -⟩ := (hS.k.blk K8.out (off_blk M2.out K8.out (by decide) (by decide))).o3); (obtain ⟨d0, d1, -, -⟩ := (hS.k.blk K9.out (off_blk M2.out K9.out (by decide) (by decide))).o2); (obtain ⟨x0, x1, x2, x3, x4, -⟩ := Blk.o5 (hS.k.blk KX1.out (off_blk M2.out KX1.out (by decide) (by decide)))); clear hS; go_simp; first | done | exact rfl)); (case hc => (first | (simp only [Act.put, List.setIfInBounds_toArray, List.set_cons_zero, List.set_cons_succ]; first | done | exact rfl) | rfl)))
  (refine' GG.grow_lit_call (u := .nilIface) rfl Tryz.func23 (by kernel_rfl) rfl rfl ?wtsetok6 ?runsetok6 ?putsetok6 ?nextsetok6; (case wtsetok6 => rfl); (case runsetok6 => (intro dn s w' hS hd H; (obtain ⟨uv, b1, d1, b2, d2, hg⟩ := hS.g0 hd); exact (gset_ok hg (fun b hb => Off.sub (fun v hv => by simp at hv; subst hv; exact HA.out) b hb.1) k hka xw HC.out).mono (fun e w2 ⟨h1, h2, h3⟩ => ⟨(), h1, hS.put ⟨uv, b1, d1, b2, d2, h2⟩ (h3.mono (Off.sub (by simp))) HO.out, trivial, h3.size⟩))); (case putsetok6 => (first | (simp only [Act.put, List.setIfInBounds_toArray, List.set_cons_zero, List.set_cons_succ]; first | done | exact rfl) | rfl)); (case' nextsetok6 => skip))
  (refine' GG.grow_lit (GG.DoS.still (by decide)) rfl ?wtsetok7 ?runsetok7 ?putsetok7 ?nextsetok7; (case wtsetok7 => rfl); (case runsetok7 => (intro w' hS; (obtain ⟨dn, s, hS⟩ := hS); (obtain ⟨a0, a1, a2, -, -, -⟩ := (hS.k.blk K8.out (off_blk M2.out K8.out (by decide) (by decide))).o3); (obtain ⟨d0, d1, -, -⟩ := (hS.k.blk K9.out (off_blk M2.out K9.out (by decide) (by decide))).o2); (obtain ⟨x0, x1, x2, x3, x4, -⟩ := Blk.o5 (hS.k.blk KX1.out (off_blk M2.out KX1.out (by decide) (by decide)))); clear hS; go_simp; first | done | exact rfl)); (case putsetok7 => (first | (simp only [Act.put, List.setIfInBounds_toArray, List.set_cons_zero, List.set_cons_succ]; first | done | exact rfl) | rfl)); (case' nextsetok7 => skip))
  (refine' GG.grow_lit_call (u := .bool true) rfl Tryz.func22 (by kernel_rfl) rfl rfl ?wtsetok8 ?runsetok8 ?putsetok8 ?nextsetok8; (case wtsetok8 => rfl); (case runsetok8 => (intro dn s w' hS hd H; exact (tells_post _ _ [] 0 w' (HG.out.below HG.out.lt hS.b) (Or.inl ⟨rfl, rfl⟩) ⟨_, rfl, Or.inl ⟨rfl, rfl⟩⟩ (Or.inl ⟨rfl, rfl⟩)).mono (fun e w2 h => ⟨(), h.1, hS.step (by decide) h.2, trivial, h.2.size⟩))); (case putsetok8 => (first | (simp only [Act.put, List.setIfInBounds_toArray, List.set_cons_zero, List.set_cons_succ]; first | done | exact rfl) | rfl)); (case' nextsetok8 => skip))
  intro dn s w2 hS hdn _
  have kr := hS.k.blk KR1.out (off_blk M2.out KR1.out (by decide) (by decide))
  have KF : Keep (Off [va, vt]) w w2 := ((Keep.of BW.out).trans (Keep.of HB1.out)).trans hS.k
  have G2 := hS.g1 (hdn 6 (by decide))
  have U2 := (U1.out.mono (Q := fun b => (Off vs b ∧ b ≠ w.heap.size + 1 + 1)) (fun b h => h)).keep (hS.k.mono (fun b h => Off.sub S2.out b h.1))
  clear hS
  have KB : Keep (fun b => b ≠ w.heap.size + 1 + 1) w2 (((w2.setCell ⟨w.heap.size + 1 + 1, 0, none⟩ (.slice vq2 n.v.length vc2)).setCell ⟨w.heap.size + 1 + 1, 1, none⟩ (.slice aq2 n.a.length ac2)).setCell ⟨w.heap.size + 1 + 1, 2, none⟩ (.slice tq2 n.t.length tc2)) := (((Keep.refl _ _).setCell (fun h => h rfl) _ _).setCell (fun h => h rfl) _ _).setCell (fun h => h rfl) _ _
  have UF := Lib.hid (U2)
  have UFF : Hid (NetA (Off vs) (((w2.setCell ⟨w.heap.size + 1 + 1, 0, none⟩ (.slice vq2 n.v.length vc2)).setCell ⟨w.heap.size + 1 + 1, 1, none⟩ (.slice aq2 n.a.length ac2)).setCell ⟨w.heap.size + 1 + 1, 2, none⟩ (.slice tq2 n.t.length tc2)) (.agg #[.slice vq2 n.v.length vc2, .slice aq2 n.a.length ac2, .slice tq2 n.t.length tc2]) ⟨n.v, n.a.set k (n.a[k].1, n.a[k].2.1, xw), n.t⟩) := Lib.hid (by have h := (UF.out.keep (KB.mono (fun b h => h.2))).mono (Q := Off vs) (fun b h => h.1); (try simp only [List.length_set] at h); exact h)
  have GF : Hid (GraphAt (Off vs) (((w2.setCell ⟨w.heap.size + 1 + 1, 0, none⟩ (.slice vq2 n.v.length vc2)).setCell ⟨w.heap.size + 1 + 1, 1, none⟩ (.slice aq2 n.a.length ac2)).setCell ⟨w.heap.size + 1 + 1, 2, none⟩ (.slice tq2 n.t.length tc2)) p ⟨n.v, n.a.set k (n.a[k].1, n.a[k].2.1, xw), n.t⟩ va vt) := Lib.hid (by
    exact (G2.keep KB (fun b h => h.2) (fun b e => by have := (HM.out va HA.out).lt e; omega) (fun b e => by have := (HM.out vt HT.out).lt e; omega)).mono (fun b h => h.1))
  have KFF : Hid (Keep (Off [va, vt]) w (((w2.setCell ⟨w.heap.size + 1 + 1, 0, none⟩ (.slice vq2 n.v.length vc2)).setCell ⟨w.heap.size + 1 + 1, 1, none⟩ (.slice aq2 n.a.length ac2)).setCell ⟨w.heap.size + 1 + 1, 2, none⟩ (.slice tq2 n.t.length tc2))) := Lib.hid (by
    have hK2 : Keep (fun b => b < w.heap.size) w2 (((w2.setCell ⟨w.heap.size + 1 + 1, 0, none⟩ (.slice vq2 n.v.length vc2)).setCell ⟨w.heap.size + 1 + 1, 1, none⟩ (.slice aq2 n.a.length ac2)).setCell ⟨w.heap.size + 1 + 1, 2, none⟩ (.slice tq2 n.t.length tc2)) := KB.mono (fun b h => by omega)
    exact KF.trans2 hK2)
  obtain ⟨r0, r1, r2, f0, f1, f2⟩ := kr.o3
  have lr := kr.lt
  clear kr KB G2 U2 UF
  refine wpAny_ready (rs := [9]) (by kernel_rfl) (by simp) (AllReady.cons rfl (fun K hK => ?_) AllReady.nil)
  go_simp
  refine hK _ _ ?_
  clear hK K
  refine wpAny_ready (rs := [10]) (by kernel_rfl) (by simp) (AllReady.cons rfl (fun K hK => ?_) AllReady.nil)
  go_simp
  refine hK _ _ ?_
  clear hK K
  refine wpAny_done (by kernel_rfl) ?_ _
  go_wp2_with fail
  exact bodyPost_ret (v := .tuple #[.agg #[.slice vq2 n.v.length vc2, .slice aq2 n.a.length ac2, .slice tq2 n.t.length tc2], .bool true]) (by simp [results, Tryz.results7, go_sem]; go_simp) rfl ⟨_, rfl, UFF.out, GF.out, KFF.out⟩

set_option maxHeartbeats 8000000 in
set_option maxRecDepth 100000 in
theorem do6_benderr {w0 : World} (hg : ErrT w0) (hb0 : Below w0.heap.size w0 w) (ho : ∀ b, b < w0.heap.size → Off [va, vt] b) (h : GraphAt (Off vs) w p n va vt) (hn : GrN n) (hu : NetA (Off vs) w u n) (ha : va ∈ vs) (ht : vt ∈ vs) (hm : ∀ v ∈ vs, MutR w v) (x : ActD) (c0 : -9223372036854775808 ≤ x.w) (c1 : x.w ≤ 9223372036854775807) (hk : ¬ x.k = 0) (F : Flt) (hF : (bendN n x.a x.i x.o x.w).2 = F) (hne : ¬ F.2 = 0) :
    Calls Tryz.prog 7 #[gp p, u, actV x] w fun e w' => ∃ u', e = .returned (.tuple #[u', .bool true]) ∧ NetA (Off vs) w' u' n ∧ GraphAt (Off vs) w' p n va vt ∧ Keep (Off [va, vt]) w w' := by
  have hk0 : (x.k == 0) = false := by simpa using hk
  obtain ⟨vq, aq, tq, vc, ac, tc, rfl, -⟩ := hu.net.shape
  obtain ⟨xk, xa, xi, xo, xw⟩ := x
  simp only [] at c0 c1 hk0 hF ⊢
  have HG := Lib.hid hg
  have HN := Lib.hid hn
  have HO := Lib.hid ho
  have HA := Lib.hid ha
  have HT := Lib.hid ht
  have HM := Lib.hid hm
  have HC0 := Lib.hid (And.intro c0 c1)
  have HF := Lib.hid hF
  have HNE := Lib.hid hne
  have HFL : Hid (1 ≤ F.1.length ∧ F.1.length ≤ 2 ∧ ¬ F.2 = 0) := Lib.hid (by rw [← hF]; rcases bendN_flt n xa xi xo xw with h | h; exact absurd (by rw [← hF]; exact h.2) hne; exact h)
  have hu1 : NetA (fun b => Off vs b ∧ b < w.heap.size) w (netVal n vq aq tq vc ac tc) n := hu.both
  clear hg hn ho ha ht hm c0 c1 hk hF hne
  unfold actV
  go_enter Tryz.func7, Tryz.ntmps7
  go_wp2_with fail
  obtain ⟨W0, hW0⟩ := named (((w.alloc (.cells #[.slice vq n.v.length vc, .slice aq n.a.length ac, .slice tq n.t.length tc] 26)).alloc (.cells #[.int .i64 xk, .int .i64 xa, .int .i64 xi, .int .i64 xo, .int .i64 xw] 36)).alloc (.cells #[.slice none 0 0, .slice none 0 0, .slice none 0 0] 26))
  rw [← hW0]
  have hbw : Below w.heap.size w W0 := by rw [hW0]; exact (below_alloc2 _ _).alloc (by simp; omega) _
  have BW := Lib.hid hbw
  have KX : Hid (Blk W0 (w.heap.size + 1) #[.int .i64 xk, .int .i64 xa, .int .i64 xi, .int .i64 xo, .int .i64 xw] 36) := by rw [hW0]; exact Lib.hid ((Blk.new _ _ _ _ (by simp)).old _)
  have KR : Hid (Blk W0 (w.heap.size + 1 + 1) #[.slice none 0 0, .slice none 0 0, .slice none 0 0] 26) := by rw [hW0]; exact Lib.hid (Blk.new _ _ _ _ (by simp))
  have B0 := Lib.hid (bOn6 hb0 hbw)
  have hgb : GraphAt (fun b => Off vs b ∧ b ≠ w.heap.size + 1 + 1) w p n va vt := h.both.mono (fun b h => ⟨h.1, by have := h.2; omega⟩)
  have G0 := Lib.hid (hgb.old hbw)
  have U0 := Lib.hid (hu1.old hbw)
  have M0 : Hid (∀ v ∈ vs, MutR W0 v) := Lib.hid (fun v hv => (HM.out v hv).old hbw)
  clear hW0 hbw hb0 h hu hu1 hgb
  refine (rbend_errF U0.out.net HN.out xa xi xo xw HC0.out.1 HC0.out.2 HF.out HNE.out).mono ?_
  rintro e w1 ⟨wv, rfl, hW, hb⟩
  obtain ⟨qw, mw, cw, rfl⟩ := hW.shape
  have HW := Lib.hid hW
  have HB := Lib.hid hb
  clear hW hb
  go_wp2_with fail
  obtain ⟨W1, hW1⟩ := named ((w1.alloc (.cells #[.slice vq n.v.length vc, .slice aq n.a.length ac, .slice tq n.t.length tc] 26)).alloc (.cells #[.slice qw mw cw, .int .i64 F.2] 62))
  rw [← hW1]
  have hb1 : Below w1.heap.size w1 W1 := by rw [hW1]; exact below_alloc2 _ _
  have K8 : Hid (Blk W1 w1.heap.size #[.slice vq n.v.length vc, .slice aq n.a.length ac, .slice tq n.t.length tc] 26) := by rw [hW1]; exact Lib.hid ((Blk.new _ _ _ _ rfl).old _)
  have K9 : Hid (Blk W1 (w1.heap.size + 1) #[.slice qw mw cw, .int .i64 F.2] 62) := by rw [hW1]; exact Lib.hid (Blk.new _ _ _ _ (by simp))
  have HB1 := Lib.hid (bOn6 HB.out hb1)
  have HW1 := Lib.hid (HW.out.below hb1)
  clear hW1 hb1 HW HB
  refine' GG.wp_thenL _ 13 (GG.SB W1) [[], [], [], [2], [], [4], [], [6], [], [8], [1, 2, 3, 4, 5, 6, 7, 8, 9], [], [1, 2, 3, 4, 5, 6, 7, 8, 9, 10, 11]] (GG.Fact.lit (Rl := GG.RlB) _ :: GG.Fact.lit (Rl := GG.RlB) _ :: GG.Fact.lit (Rl := GG.RlB) _ :: GG.Fact.lit (Rl := GG.RlB) _ :: GG.Fact.lit (Rl := GG.RlB) _ :: GG.Fact.lit (Rl := GG.RlB) _ :: GG.Fact.lit (Rl := GG.RlB) _ :: GG.Fact.lit (Rl := GG.RlB) _ :: GG.Fact.lit (Rl := GG.RlB) _ :: GG.Fact.lit (Rl := GG.RlB) _ :: GG.Fact.prop (Rl := GG.RlB) _ _ :: GG.Fact.lit (Rl := GG.RlB) _ :: GG.Fact.lit (Rl := GG.RlB) _ :: []) (by kernel_rfl) rfl (by kernel_rfl) (()) ((Below.refl _ _).drew) ?seqbenderr
  case' seqbenderr => skip
  iterate 10 (apply GG.grow_lit (GG.SB.still W1 _); (case hf => rfl); (case hw => rfl); (case hrun => (intro w' hS; (obtain ⟨dn, s, hS⟩ := hS); (have hS : Below W1.heap.size W1 w' := hS); (obtain ⟨a0, a1, a2, -, -, -⟩ := (K8.out.keep hS).o3); (obtain ⟨d0, d1, -, -⟩ := (K9.out.keep hS).o2); (obtain ⟨x0, x1, x2, x3, x4, -⟩ := Blk.o5 (KX.out.keep (HB1.out.trans (hS.mono HB1.out.size)))); clear hS; go_simp; first | done | exact rfl)); (case hc => (first | (simp only [Act.put, List.setIfInBounds_toArray, List.set_cons_zero, List.set_cons_succ]; first | done | exact rfl) | rfl)))
  (refine' GG.grow_any_call (p := fun v _ w => FaultV w v F.1 F.2) (hp := fun v s w s' w' h hb => h.below hb) rfl Tryz.func25 (by kernel_rfl) rfl rfl ?wtbenderr10 ?runbenderr10 ?putbenderr10 ?nextbenderr10; (case wtbenderr10 => rfl); (case runbenderr10 => (intro dn s w' hS hd H; (have hS : Below W1.heap.size W1 w' := hS); exact (vBendE (G0.out.old (HB1.out.trans (hS.mono HB1.out.size))) HN.out xa xi xo xw HC0.out.1 HC0.out.2 HF.out HNE.out).mono (fun e w2 ⟨v, h1, h2, h3⟩ => ⟨v, (), h1, h2, hS.trans (h3.mono hS.size), h3, h3.size⟩))); (case putbenderr10 => (intro v; (simp only [Act.put, List.setIfInBounds_toArray, List.set_cons_zero, List.set_cons_succ]; first | done | exact rfl))); (case' nextbenderr10 => intro v10))
  (refine' GG.grow_lit (GG.SB.still W1 _) rfl ?wtbenderr11 ?runbenderr11 ?putbenderr11 ?nextbenderr11; (case wtbenderr11 => rfl); (case runbenderr11 => (intro w' hS; (obtain ⟨dn, s, hS⟩ := hS); (have hS : Below W1.heap.size W1 w' := hS); (obtain ⟨a0, a1, a2, -, -, -⟩ := (K8.out.keep hS).o3); (obtain ⟨d0, d1, -, -⟩ := (K9.out.keep hS).o2); (obtain ⟨x0, x1, x2, x3, x4, -⟩ := Blk.o5 (KX.out.keep (HB1.out.trans (hS.mono HB1.out.size)))); clear hS; go_simp; first | done | exact rfl)); (case putbenderr11 => (first | (simp only [Act.put, List.setIfInBounds_toArray, List.set_cons_zero, List.set_cons_succ]; first | done | exact rfl) | rfl)); (case' nextbenderr11 => skip))
  (refine' GG.grow_lit_call (u := .bool true) rfl Tryz.func22 (by kernel_rfl) rfl rfl ?wtbenderr12 ?runbenderr12 ?putbenderr12 ?nextbenderr12; (case wtbenderr12 => rfl); (case runbenderr12 => (intro dn s w' hS hd H; (have hS : Below W1.heap.size W1 w' := hS); exact (tells_post _ _ F.1 F.2 w' (HG.out.below HG.out.lt (bOn6 (bOn6 B0.out HB1.out) hS)) (H 10 (by decide)) (HW1.out.below hS) (Or.inr HFL.out)).mono (fun e w2 h => ⟨(), h.1, hS.trans (h.2.mono hS.size), h.2, h.2.size⟩))); (case putbenderr12 => (first | (simp only [Act.put, List.setIfInBounds_toArray, List.set_cons_zero, List.set_cons_succ]; first | done | exact rfl) | rfl)); (case' nextbenderr12 => skip))
  intro dn s w2 hS _ _
  have hS : Below W1.heap.size W1 w2 := hS
  have B2 := HB1.out.trans (hS.mono HB1.out.size)
  have kr := KR.out.keep B2
  have BF := bOn6 BW.out B2
  have G2 := G0.out.old B2
  have U2 := U0.out.old B2
  clear hS
  have KB : Keep (fun b => b ≠ w.heap.size + 1 + 1) w2 (((w2.setCell ⟨w.heap.size + 1 + 1, 0, none⟩ (.slice vq n.v.length vc)).setCell ⟨w.heap.size + 1 + 1, 1, none⟩ (.slice aq n.a.length ac)).setCell ⟨w.heap.size + 1 + 1, 2, none⟩ (.slice tq n.t.length tc)) := (((Keep.refl _ _).setCell (fun h => h rfl) _ _).setCell (fun h => h rfl) _ _).setCell (fun h => h rfl) _ _
  have UF := Lib.hid (U2.mono (Q := fun b => Off vs b ∧ b ≠ w.heap.size + 1 + 1) (fun b h => ⟨h.1, by have := h.2; omega⟩))
  have UFF : Hid (NetA (Off vs) (((w2.setCell ⟨w.heap.size + 1 + 1, 0, none⟩ (.slice vq n.v.length vc)).setCell ⟨w.heap.size + 1 + 1, 1, none⟩ (.slice aq n.a.length ac)).setCell ⟨w.heap.size + 1 + 1, 2, none⟩ (.slice tq n.t.length tc)) (.agg #[.slice vq n.v.length vc, .slice aq n.a.length ac, .slice tq n.t.length tc]) n) := Lib.hid (by have h := (UF.out.keep (KB.mono (fun b h => h.2))).mono (Q := Off vs) (fun b h => h.1); (try simp only [List.length_set] at h); exact h)
  have GF : Hid (GraphAt (Off vs) (((w2.setCell ⟨w.heap.size + 1 + 1, 0, none⟩ (.slice vq n.v.length vc)).setCell ⟨w.heap.size + 1 + 1, 1, none⟩ (.slice aq n.a.length ac)).setCell ⟨w.heap.size + 1 + 1, 2, none⟩ (.slice tq n.t.length tc)) p n va vt) := Lib.hid (by
    exact (G2.keep KB (fun b h => h.2) (fun b e => by have := (HM.out va HA.out).lt e; omega) (fun b e => by have := (HM.out vt HT.out).lt e; omega)).mono (fun b h => h.1))
  have KFF : Hid (Keep (Off [va, vt]) w (((w2.setCell ⟨w.heap.size + 1 + 1, 0, none⟩ (.slice vq n.v.length vc)).setCell ⟨w.heap.size + 1 + 1, 1, none⟩ (.slice aq n.a.length ac)).setCell ⟨w.heap.size + 1 + 1, 2, none⟩ (.slice tq n.t.length tc))) := Lib.hid (by
    have hK2 : Keep (fun b => b < w.heap.size) w2 (((w2.setCell ⟨w.heap.size + 1 + 1, 0, none⟩ (.slice vq n.v.length vc)).setCell ⟨w.heap.size + 1 + 1, 1, none⟩ (.slice aq n.a.length ac)).setCell ⟨w.heap.size + 1 + 1, 2, none⟩ (.slice tq n.t.length tc)) := KB.mono (fun b h => by omega)
    exact (Keep.of BF).trans2 hK2)
  obtain ⟨r0, r1, r2, f0, f1, f2⟩ := kr.o3
  have lr := kr.lt
  clear kr KB G2 U2 UF
  refine wpAny_ready (rs := [13]) (by kernel_rfl) (by simp) (AllReady.cons rfl (fun K hK => ?_) AllReady.nil)
  go_simp
  refine hK _ _ ?_
  clear hK K
  refine wpAny_ready (rs := [14]) (by kernel_rfl) (by simp) (AllReady.cons rfl (fun K hK => ?_) AllReady.nil)
  go_simp
  refine hK _ _ ?_
  clear hK K
  refine wpAny_done (by kernel_rfl) ?_ _
  go_wp2_with fail
  exact bodyPost_ret (v := .tuple #[.agg #[.slice vq n.v.length vc, .slice aq n.a.length ac, .slice tq n.t.length tc], .bool true]) (by simp [results, Tryz.results7, go_sem]; go_simp) rfl ⟨_, rfl, UFF.out, GF.out, KFF.out⟩

set_option maxHeartbeats 8000000 in
set_option maxRecDepth 100000 in
theorem do6_bendok {w0 : World} (hg : ErrT w0) (hb0 : Below w0.heap.size w0 w) (ho : ∀ b, b < w0.heap.size → Off [va, vt] b) (h : GraphAt (Off vs) w p n va vt) (hn : GrN n) (hu : NetA (Off vs) w u n) (ha : va ∈ vs) (ht : vt ∈ vs) (hm : ∀ v ∈ vs, MutR w v) (x : ActD) (c0 : -9223372036854775808 ≤ x.w) (c1 : x.w ≤ 9223372036854775807) (hk : ¬ x.k = 0) (k : Nat) (hka : k < n.t.length) (hxa : x.a = k) (hc : wgt x.w = true) (hx : 0 ≤ x.i ∧ x.i < n.t[k].1 ∧ 0 ≤ x.o ∧ x.o < n.t[k].2.1) :
    Calls Tryz.prog 7 #[gp p, u, actV x] w fun e w' => ∃ u', e = .returned (.tuple #[u', .bool true]) ∧ NetA (Off vs) w' u' ⟨n.v, n.a, n.t.set k (n.t[k].1, n.t[k].2.1, n.t[k].2.2.set (x.i * n.t[k].2.1 + x.o).toNat x.w)⟩ ∧ GraphAt (Off vs) w' p ⟨n.v, n.a, n.t.set k (n.t[k].1, n.t[k].2.1, n.t[k].2.2.set (x.i * n.t[k].2.1 + x.o).toNat x.w)⟩ va vt ∧ Keep (Off [va, vt]) w w' := by
  have hk0 : (x.k == 0) = false := by simpa using hk
  obtain ⟨vq, aq, tq, vc, ac, tc, rfl, -⟩ := hu.net.shape
  obtain ⟨xk, xa, xi, xo, xw⟩ := x
  simp only [] at c0 c1 hk0 hxa hc hx ⊢
  subst hxa
  have HG := Lib.hid hg
  have HN := Lib.hid hn
  have HO := Lib.hid ho
  have HA := Lib.hid ha
  have HT := Lib.hid ht
  have HM := Lib.hid hm
  have HC0 := Lib.hid (And.intro c0 c1)
  have HC := Lib.hid hc
  have HX := Lib.hid hx
  have hu1 : NetA (fun b => Off vs b ∧ b < w.heap.size) w (netVal n vq aq tq vc ac tc) n := hu.both
  clear hg hn ho ha ht hm c0 c1 hk hc hx
  unfold actV
  go_enter Tryz.func7, Tryz.ntmps7
  go_wp2_with fail
  obtain ⟨W0, hW0⟩ := named (((w.alloc (.cells #[.slice vq n.v.length vc, .slice aq n.a.length ac, .slice tq n.t.length tc] 26)).alloc (.cells #[.int .i64 xk, .int .i64 k, .int .i64 xi, .int .i64 xo, .int .i64 xw] 36)).alloc (.cells #[.slice none 0 0, .slice none 0 0, .slice none 0 0] 26))
  rw [← hW0]
  have hbw : Below w.heap.size w W0 := by rw [hW0]; exact (below_alloc2 _ _).alloc (by simp; omega) _
  have BW := Lib.hid hbw
  have KX : Hid (Blk W0 (w.heap.size + 1) #[.int .i64 xk, .int .i64 k, .int .i64 xi, .int .i64 xo, .int .i64 xw] 36) := by rw [hW0]; exact Lib.hid ((Blk.new _ _ _ _ (by simp)).old _)
  have KR : Hid (Blk W0 (w.heap.size + 1 + 1) #[.slice none 0 0, .slice none 0 0, .slice none 0 0] 26) := by rw [hW0]; exact Lib.hid (Blk.new _ _ _ _ (by simp))
  have B0 := Lib.hid (bOn6 hb0 hbw)
  have hgb : GraphAt (fun b => Off vs b ∧ b ≠ w.heap.size + 1 + 1) w p n va vt := h.both.mono (fun b h => ⟨h.1, by have := h.2; omega⟩)
  have G0 := Lib.hid (hgb.old hbw)
  have U0 := Lib.hid (hu1.old hbw)
  have M0 : Hid (∀ v ∈ vs, MutR W0 v) := Lib.hid (fun v hv => (HM.out v hv).old hbw)
  clear hW0 hbw hb0 h hu hu1 hgb
  refine (rbend_ok (Q := fun b => Off vs b ∧ b ≠ w.heap.size + 1 + 1) U0.out.net HN.out (fun w' hb b cs t hk h1 h2 h3 => ⟨off_blk (fun v hv => (M0.out v hv).old hb) hk h1 h2, fun e => by subst e; exact h3 (by have := (KR.out.keep hb); unfold Blk at this hk; rw [this] at hk; injection hk with hk; injection hk with _ hk)⟩) k hka xi xo xw HX.out HC.out).mono ?_
  rintro e w1 ⟨uv, rfl, hU, hb⟩
  obtain ⟨vq2, aq2, tq2, vc2, ac2, tc2, rfl, -⟩ := hU.net.shape
  simp only [List.length_set]
  have HU := Lib.hid hU
  have HB := Lib.hid hb
  clear hU hb
  go_wp2_with fail
  obtain ⟨W1, hW1⟩ := named ((w1.alloc (.cells #[.slice vq2 n.v.length vc2, .slice aq2 n.a.length ac2, .slice tq2 n.t.length tc2] 26)).alloc (.cells #[.slice none 0 0, .int .i64 0] 62))
  rw [← hW1]
  have hb1 : Below w1.heap.size w1 W1 := by rw [hW1]; exact below_alloc2 _ _
  have K8 : Hid (Blk W1 w1.heap.size #[.slice vq2 n.v.length vc2, .slice aq2 n.a.length ac2, .slice tq2 n.t.length tc2] 26) := by rw [hW1]; exact Lib.hid ((Blk.new _ _ _ _ rfl).old _)
  have K9 : Hid (Blk W1 (w1.heap.size + 1) #[.slice none 0 0, .int .i64 0] 62) := by rw [hW1]; exact Lib.hid (Blk.new _ _ _ _ (by simp))
  have HB1 := Lib.hid (bOn6 HB.out hb1)
  have U1 := Lib.hid (HU.out.old hb1)
  have KX1 := Lib.hid (KX.out.keep HB1.out)
  have KR1 := Lib.hid (KR.out.keep HB1.out)
  have M1 : Hid (∀ v ∈ vs, MutR W1 v) := Lib.hid (fun v hv => (M0.out v hv).old HB1.out)
  have DS0 := Lib.hid (GG.DoS.start (j := 10) (m := ⟨n.v, n.a, n.t.set k (n.t[k].1, n.t[k].2.1, n.t[k].2.2.set (xi * n.t[k].2.1 + xo).toNat xw)⟩) (G0.out.old HB1.out) (bOn6 B0.out HB1.out))
  have S2 : Hid (∀ v ∈ [va, vt], v ∈ vs) := Lib.hid (by intro v hv; simp at hv; rcases hv with rfl | rfl; exact HA.out; exact HT.out)
  have M2 : Hid (∀ v ∈ [va, vt], MutR W1 v) := Lib.hid (fun v hv => M1.out v (S2.out v hv))
  clear hW1 hb1 HU HB
  refine' GG.wp_thenL _ 13 (GG.DoS 10 (fun b => Off vs b ∧ b ≠ w.heap.size + 1 + 1) va vt p n ⟨n.v, n.a, n.t.set k (n.t[k].1, n.t[k].2.1, n.t[k].2.2.set (xi * n.t[k].2.1 + xo).toNat xw)⟩ w0 W1) [[], [], [], [2], [], [4], [], [6], [], [8], [1, 2, 3, 4, 5, 6, 7, 8, 9], [], [1, 2, 3, 4, 5, 6, 7, 8, 9, 10, 11]] (GG.Fact.lit (Rl := GG.RlT) _ :: GG.Fact.lit (Rl := GG.RlT) _ :: GG.Fact.lit (Rl := GG.RlT) _ :: GG.Fact.lit (Rl := GG.RlT) _ :: GG.Fact.lit (Rl := GG.RlT) _ :: GG.Fact.lit (Rl := GG.RlT) _ :: GG.Fact.lit (Rl := GG.RlT) _ :: GG.Fact.lit (Rl := GG.RlT) _ :: GG.Fact.lit (Rl := GG.RlT) _ :: GG.Fact.lit (Rl := GG.RlT) _ :: GG.Fact.lit (Rl := GG.RlT) _ :: GG.Fact.lit (Rl := GG.RlT) _ :: GG.Fact.lit (Rl := GG.RlT) _ :: []) (by kernel_rfl) rfl (by kernel_rfl) (()) (DS0.out) ?seqbendok
  case' seqbendok => skip
  iterate 10 (apply GG.grow_lit (GG.DoS.still (by decide)); (case hf => rfl); (case hw => rfl); (case hrun => (intro w' hS; (obtain ⟨dn, s, hS⟩ := hS); (obtain ⟨a0, a1, a2, -, -, -⟩ := (hS.k.blk K8.out (off_blk M2.out K8.out (by decide) (by decide))).o3); (obtain ⟨d0, d1, -, -⟩ := (hS.k.blk K9.out (off_blk M2.out K9.out (by decide) (by decide))).o2); (obtain ⟨x0, x1, x2, x3, x4, -⟩ := Blk.o5 (hS.k.blk KX1.out (off_blk M2.out KX1.out (by decide) (by decide)))); clear hS; go_simp; first | done | exact rfl)); (case hc => (first | (simp only [Act.put, List.setIfInBounds_toArray, List.set_cons_zero, List.set_cons_succ]; first | done | exact rfl) | rfl)))
  (refine' GG.grow_lit_call (u := .nilIface) rfl Tryz.func25 (by kernel_rfl) rfl rfl ?wtbendok10 ?runbendok10 ?putbendok10 ?nextbendok10; (case wtbendok10 => rfl); (case runbendok10 => (intro dn s w' hS hd H; (obtain ⟨uv, b1, d1, b2, d2, hg⟩ := hS.g0 hd); exact (gbend_ok hg HN.out (fun b hb => Off.sub (fun v hv => by simp at hv; subst hv; exact HT.out) b hb.1) (fun b hb => ⟨off_new M1.out (Nat.le_trans hS.k.size hb), by have := KR1.out.lt; have := hS.k.size; omega⟩) k hka xi xo xw HX.out HC.out).mono (fun e w2 ⟨h1, h2, h3⟩ => ⟨(), h1, hS.put ⟨uv, b1, d1, b2, d2, h2⟩ (h3.mono (Off.sub (by simp))) HO.out, trivial, h3.size⟩))); (case putbendok10 => (first | (simp only [Act.put, List.setIfInBounds_toArray, List.set_cons_zero, List.set_cons_succ]; first | done | exact rfl) | rfl)); (case' nextbendok10 => skip))
  (refine' GG.grow_lit (GG.DoS.still (by decide)) rfl ?wtbendok11 ?runbendok11 ?putbendok11 ?nextbendok11; (case wtbendok11 => rfl); (case runbendok11 => (intro w' hS; (obtain ⟨dn, s, hS⟩ := hS); (obtain ⟨a0, a1, a2, -, -, -⟩ := (hS.k.blk K8.out (off_blk M2.out K8.out (by decide) (by decide))).o3); (obtain ⟨d0, d1, -, -⟩ := (hS.k.blk K9.out (off_blk M2.out K9.out (by decide) (by decide))).o2); (obtain ⟨x0, x1, x2, x3, x4, -⟩ := Blk.o5 (hS.k.blk KX1.out (off_blk M2.out KX1.out (by decide) (by decide)))); clear hS; go_simp; first | done | exact rfl)); (case putbendok11 => (first | (simp only [Act.put, List.setIfInBounds_toArray, List.set_cons_zero, List.set_cons_succ]; first | done | exact rfl) | rfl)); (case' nextbendok11 => skip))
  (refine' GG.grow_lit_call (u := .bool true) rfl Tryz.func22 (by kernel_rfl) rfl rfl ?wtbendok12 ?runbendok12 ?putbendok12 ?nextbendok12; (case wtbendok12 => rfl); (case runbendok12 => (intro dn s w' hS hd H; exact (tells_post _ _ [] 0 w' (HG.out.below HG.out.lt hS.b) (Or.inl ⟨rfl, rfl⟩) ⟨_, rfl, Or.inl ⟨rfl, rfl⟩⟩ (Or.inl ⟨rfl, rfl⟩)).mono (fun e w2 h => ⟨(), h.1, hS.step (by decide) h.2, trivial, h.2.size⟩))); (case putbendok12 => (first | (simp only [Act.put, List.setIfInBounds_toArray, List.set_cons_zero, List.set_cons_succ]; first | done | exact rfl) | rfl)); (case' nextbendok12 => skip))
  intro dn s w2 hS hdn _
  have kr := hS.k.blk KR1.out (off_blk M2.out KR1.out (by decide) (by decide))
  have KF : Keep (Off [va, vt]) w w2 := ((Keep.of BW.out).trans (Keep.of HB1.out)).trans hS.k
  have G2 := hS.g1 (hdn 10 (by decide))
  have U2 := (U1.out.mono (Q := fun b => (Off vs b ∧ b ≠ w.heap.size + 1 + 1)) (fun b h => h)).keep (hS.k.mono (fun b h => Off.sub S2.out b h.1))
  clear hS
  have KB : Keep (fun b => b ≠ w.heap.size + 1 + 1) w2 (((w2.setCell ⟨w.heap.size + 1 + 1, 0, none⟩ (.slice vq2 n.v.length vc2)).setCell ⟨w.heap.size + 1 + 1, 1, none⟩ (.slice aq2 n.a.length ac2)).setCell ⟨w.heap.size + 1 + 1, 2, none⟩ (.slice tq2 n.t.length tc2)) := (((Keep.refl _ _).setCell (fun h => h rfl) _ _).setCell (fun h => h rfl) _ _).setCell (fun h => h rfl) _ _
  have UF := Lib.hid (U2)
  have UFF : Hid (NetA (Off vs) (((w2.setCell ⟨w.heap.size + 1 + 1, 0, none⟩ (.slice vq2 n.v.length vc2)).setCell ⟨w.heap.size + 1 + 1, 1, none⟩ (.slice aq2 n.a.length ac2)).setCell ⟨w.heap.size + 1 + 1, 2, none⟩ (.slice tq2 n.t.length tc2)) (.agg #[.slice vq2 n.v.length vc2, .slice aq2 n.a.length ac2, .slice tq2 n.t.length tc2]) ⟨n.v, n.a, n.t.set k (n.t[k].1, n.t[k].2.1, n.t[k].2.2.set (xi * n.t[k].2.1 + xo).toNat xw)⟩) := Lib.hid (by have h := (UF.out.keep (KB.mono (fun b h => h.2))).mono (Q := Off vs) (fun b h => h.1); (try simp only [List.length_set] at h); exact h)
  have GF : Hid (GraphAt (Off vs) (((w2.setCell ⟨w.heap.size + 1 + 1, 0, none⟩ (.slice vq2 n.v.length vc2)).setCell ⟨w.heap.size + 1 + 1, 1, none⟩ (.slice aq2 n.a.length ac2)).setCell ⟨w.heap.size + 1 + 1, 2, none⟩ (.slice tq2 n.t.length tc2)) p ⟨n.v, n.a, n.t.set k (n.t[k].1, n.t[k].2.1, n.t[k].2.2.set (xi * n.t[k].2.1 + xo).toNat xw)⟩ va vt) := Lib.hid (by
    exact (G2.keep KB (fun b h => h.2) (fun b e => by have := (HM.out va HA.out).lt e; omega) (fun b e => by have := (HM.out vt HT.out).lt e; omega)).mono (fun b h => h.1))
  have KFF : Hid (Keep (Off [va, vt]) w (((w2.setCell ⟨w.heap.size + 1 + 1, 0, none⟩ (.slice vq2 n.v.length vc2)).setCell ⟨w.heap.size + 1 + 1, 1, none⟩ (.slice aq2 n.a.length ac2)).setCell ⟨w.heap.size + 1 + 1, 2, none⟩ (.slice tq2 n.t.length tc2))) := Lib.hid (by
    have hK2 : Keep (fun b => b < w.heap.size) w2 (((w2.setCell ⟨w.heap.size + 1 + 1, 0, none⟩ (.slice vq2 n.v.length vc2)).setCell ⟨w.heap.size + 1 + 1, 1, none⟩ (.slice aq2 n.a.length ac2)).setCell ⟨w.heap.size + 1 + 1, 2, none⟩ (.slice tq2 n.t.length tc2)) := KB.mono (fun b h => by omega)
    exact KF.trans2 hK2)
  obtain ⟨r0, r1, r2, f0, f1, f2⟩ := kr.o3
  have lr := kr.lt
  clear kr KB G2 U2 UF
  refine wpAny_ready (rs := [13]) (by kernel_rfl) (by simp) (AllReady.cons rfl (fun K hK => ?_) AllReady.nil)
  go_simp
  refine hK _ _ ?_
  clear hK K
  refine wpAny_ready (rs := [14]) (by kernel_rfl) (by simp) (AllReady.cons rfl (fun K hK => ?_) AllReady.nil)
  go_simp
  refine hK _ _ ?_
  clear hK K
  refine wpAny_done (by kernel_rfl) ?_ _
  go_wp2_with fail
  exact bodyPost_ret (v := .tuple #[.agg #[.slice vq2 n.v.length vc2, .slice aq2 n.a.length ac2, .slice tq2 n.t.length tc2], .bool true]) (by simp [results, Tryz.results7, go_sem]; go_simp) rfl ⟨_, rfl, UFF.out, GF.out, KFF.out⟩

/-- An act, of a graph and of the document's net. -/
theorem do6_any {w0 : World} (hg : ErrT w0) (hb0 : Below w0.heap.size w0 w) (ho : ∀ b, b < w0.heap.size → Off [va, vt] b) (h : GraphAt (Off vs) w p n va vt) (hn : GrN n) (hu : NetA (Off vs) w u n) (ha : va ∈ vs) (ht : vt ∈ vs) (hm : ∀ v ∈ vs, MutR w v) (x : ActD) (c0 : -9223372036854775808 ≤ x.w) (c1 : x.w ≤ 9223372036854775807) :
    Calls Tryz.prog 7 #[gp p, u, actV x] w fun e w' => ∃ u', e = .returned (.tuple #[u', .bool true]) ∧ NetA (Off vs) w' u' (actN n x).1 ∧ GraphAt (Off vs) w' p (actN n x).1 va vt ∧ Keep (Off [va, vt]) w w' := by
  by_cases hk : x.k = 0
  · have e : actN n x = setN n x.a x.w := if_pos hk
    rw [e]
    by_cases hz : (setN n x.a x.w).2.2 = 0
    · obtain ⟨k, hka, hxa, hc, em⟩ := setN_ok hz
      rw [em]
      exact do6_setok hg hb0 ho h hn hu ha ht hm x c0 c1 hk k hka hxa hc
    · have em : (setN n x.a x.w).1 = n := by
        unfold setN at hz ⊢
        split
        · rfl
        · split
          · rfl
          · next h1 h2 => rw [if_neg h1, if_neg h2] at hz; exact absurd rfl hz
      rw [em]
      exact do6_seterr hg hb0 ho h hn hu ha ht hm x c0 c1 hk _ rfl hz
  · have e : actN n x = bendN n x.a x.i x.o x.w := if_neg hk
    rw [e]
    by_cases hz : (bendN n x.a x.i x.o x.w).2.2 = 0
    · obtain ⟨k, hka, hxa, hc, hx, em⟩ := bendN_ok hz
      rw [em]
      exact do6_bendok hg hb0 ho h hn hu ha ht hm x c0 c1 hk k hka hxa hc hx
    · have em : (bendN n x.a x.i x.o x.w).1 = n := by
        unfold bendN at hz ⊢
        split
        · rfl
        · split
          · next h1 h2 => rw [if_neg h1, if_pos h2] at hz; exact absurd rfl hz
          · rfl
      rw [em]
      exact do6_benderr hg hb0 ho h hn hu ha ht hm x c0 c1 hk _ rfl hz
end
end Go.Proofs.YtlfihaajnjeaeaaGreatDoor

/-
  Rows of acts that came in: five numbers each.
-/
namespace Go.Proofs.YtlfihaajnjeaeaaGreatDoor
open Go.ChangeShapes Go.WideShapes Go.ChangeAt Go.RowKit Go.Joins Go.Deep

/-- The value v is a row of acts, read in world w. -/
def Acts (w : World) (v : Value) (l : List ActD) : Prop :=
  (l = [] ∧ ∃ p c, v = .slice p 0 c) ∨ (l.length ≤ 9223372036854775807 ∧ ∃ b o c, v = .slice (some ⟨b, o, none⟩) l.length c ∧
    ∀ i (h : i < l.length), w.cell? ⟨b, o + i * 5, none⟩ = some (.int .i64 l[i].k) ∧ w.cell? ⟨b, o + i * 5 + 1, none⟩ = some (.int .i64 l[i].a) ∧ w.cell? ⟨b, o + i * 5 + 2, none⟩ = some (.int .i64 l[i].i) ∧ w.cell? ⟨b, o + i * 5 + 3, none⟩ = some (.int .i64 l[i].o) ∧ w.cell? ⟨b, o + i * 5 + 4, none⟩ = some (.int .i64 l[i].w))
def InAct (l : List ActD) : Prop := ∀ x ∈ l, -9223372036854775808 ≤ x.w ∧ x.w ≤ 9223372036854775807
theorem Acts.shape {w : World} {v : Value} {l : List ActD} (h : Acts w v l) : ∃ q c, v = .slice q l.length c := by
  rcases h with ⟨rfl, p, c, rfl⟩ | ⟨_, b, o, c, rfl, _⟩
  · exact ⟨p, c, rfl⟩
  · exact ⟨_, c, rfl⟩
theorem Acts.le {w : World} {v : Value} {l : List ActD} (h : Acts w v l) : l.length ≤ 9223372036854775807 := by
  rcases h with ⟨rfl, _⟩ | ⟨h, _⟩
  · simp
  · exact h
/-- The cells of the k-th. -/
theorem Acts.at {w : World} {q : Option Addr} {n c : Nat} {l : List ActD} (h : Acts w (.slice q n c) l) {k : Nat} (hk : k < l.length) :
    ∃ b o, q = some ⟨b, o, none⟩ ∧ w.cell? ⟨b, o + k * 5, none⟩ = some (.int .i64 l[k].k) ∧ w.cell? ⟨b, o + k * 5 + 1, none⟩ = some (.int .i64 l[k].a) ∧ w.cell? ⟨b, o + k * 5 + 2, none⟩ = some (.int .i64 l[k].i) ∧ w.cell? ⟨b, o + k * 5 + 3, none⟩ = some (.int .i64 l[k].o) ∧ w.cell? ⟨b, o + k * 5 + 4, none⟩ = some (.int .i64 l[k].w) := by
  rcases h with ⟨rfl, _⟩ | ⟨_, b, o, c', e, hc⟩
  · simp at hk
  · injection e with e1
    exact ⟨b, o, e1, hc k hk⟩

section
variable {H : Type} {enc : TypeId × Value → H} {W : World}
set_option maxRecDepth 100000 in
/-- A row of structs of five fields, a cell each: each one's cells, and how they are read. -/
theorem open_row5 {t e : TypeId} {f0 f1 f2 f3 f4 : Field} (ht : Tryz.prog.underlying t = some (.slice e)) (he : Tryz.prog.underlying e = some (.struct #[f0, f1, f2, f3, f4])) (hone : oneCellFields Tryz.prog #[f0, f1, f2, f3, f4] = true) (hC : Tryz.prog.cellsOf e = 5)
    {a : Option Addr} {len cap fuel : Nat} {y : DataW H × List MemPlace} (h : DataW.trod enc Tryz.prog W 0 (fun _ => true) true fuel t [.slice a len cap] = some y) :
    (a = none ∧ len = 0 ∧ cap = 0) ∨ ∃ ad : Addr, a = some ad ∧ len ≤ cap ∧ cap ≤ maxLen ∧ ∀ i, i < len → ∃ (v0 v1 v2 v3 v4 : Value) (n : Nat) (y0 y1 y2 y3 y4 : DataW H × List MemPlace),
      W.cell? (ad.add (i * 5)) = some v0 ∧ W.cell? (ad.add (i * 5 + 1)) = some v1 ∧ W.cell? (ad.add (i * 5 + 2)) = some v2 ∧ W.cell? (ad.add (i * 5 + 3)) = some v3 ∧ W.cell? (ad.add (i * 5 + 4)) = some v4 ∧
      DataW.trod enc Tryz.prog W 0 (fun _ => true) true n f0.type [v0] = some y0 ∧ DataW.trod enc Tryz.prog W 0 (fun _ => true) true n f1.type [v1] = some y1 ∧ DataW.trod enc Tryz.prog W 0 (fun _ => true) true n f2.type [v2] = some y2 ∧ DataW.trod enc Tryz.prog W 0 (fun _ => true) true n f3.type [v3] = some y3 ∧ DataW.trod enc Tryz.prog W 0 (fun _ => true) true n f4.type [v4] = some y4 := by
  rcases open_slice ht h with ⟨hcs, _⟩ | ⟨ad, len', cap', m, n, D, Pl, hcs, _, hl, hm, hmm, _, hi⟩
  · simp at hcs
    exact Or.inl hcs
  · right
    simp at hcs
    obtain ⟨rfl, rfl, rfl⟩ := hcs
    refine ⟨ad, rfl, hl, hm, fun i hlt => ?_⟩
    obtain ⟨cs', hc, ht'⟩ := hi i (by simp at hmm; omega)
    rw [hC] at hc
    obtain ⟨_, hcl, hat⟩ := World.cells?_some hc
    obtain ⟨xs, n', _, _, _, hxl, hf⟩ := DataW.trod_struct he ht'
    obtain ⟨o0, k0⟩ := hone_of hone 0 f0 rfl
    obtain ⟨o1, k1⟩ := hone_of hone 1 f1 rfl
    obtain ⟨o2, k2⟩ := hone_of hone 2 f2 rfl
    obtain ⟨o3, k3⟩ := hone_of hone 3 f3 rfl
    obtain ⟨o4, k4⟩ := hone_of hone 4 f4 rfl
    match cs', hcl, xs, hxl with
    | [c0, c1, c2, c3, c4], _, [y0, y1, y2, y3, y4], _ =>
      have g0 := hf 0 f0 rfl
      have g1 := hf 1 f1 rfl
      have g2 := hf 2 f2 rfl
      have g3 := hf 3 f3 rfl
      have g4 := hf 4 f4 rfl
      rw [o0, k0] at g0
      rw [o1, k1] at g1
      rw [o2, k2] at g2
      rw [o3, k3] at g3
      rw [o4, k4] at g4
      have h0 := hat 0 (by omega)
      have h1 := hat 1 (by omega)
      have h2 := hat 2 (by omega)
      have h3 := hat 3 (by omega)
      have h4 := hat 4 (by omega)
      rw [add_add] at h0 h1 h2 h3 h4
      exact ⟨c0, c1, c2, c3, c4, n', y0, y1, y2, y3, y4, h0, h1, h2, h3, h4, g0, g1, g2, g3, g4⟩
end
theorem act6Cells : Tryz.prog.cellsOf 36 = 5 := by kernel_rfl
set_option maxRecDepth 100000 in
theorem open_acts6 {H : Type} {enc : TypeId × Value → H} {W : World} {base : Nat} {v : Value} {d : DataW H} {p : List MemPlace} (hok : Value.okWide Tryz.prog W .any base 27 v) (h : DataW.Trod enc Tryz.prog W 0 (fun _ => true) true 27 v d p) : ∃ l, Acts W v l ∧ InAct l := by
  obtain ⟨a, len, cap, rfl⟩ := okWide_slice Tryz.underlying27 hok
  obtain ⟨fuel, hf⟩ := h
  rcases open_row5 Tryz.underlying27 Tryz.underlying36 (by kernel_rfl) act6Cells (by simpa [Value.cells] using hf) with ⟨rfl, rfl, rfl⟩ | ⟨ad, rfl, hl, hm, hi⟩
  · exact ⟨[], Or.inl ⟨rfl, _, _, rfl⟩, by intro x hx; cases hx⟩
  · have key : ∀ i, i < len → ∃ x : ActD, (W.cell? (ad.add (i * 5)) = some (.int .i64 x.k) ∧ W.cell? (ad.add (i * 5 + 1)) = some (.int .i64 x.a) ∧ W.cell? (ad.add (i * 5 + 2)) = some (.int .i64 x.i) ∧ W.cell? (ad.add (i * 5 + 3)) = some (.int .i64 x.o) ∧ W.cell? (ad.add (i * 5 + 4)) = some (.int .i64 x.w)) ∧
        (-9223372036854775808 ≤ x.w ∧ x.w ≤ 9223372036854775807) := by
      intro i hlt
      obtain ⟨v0, v1, v2, v3, v4, n, y0, y1, y2, y3, y4, c0, c1, c2, c3, c4, t0, t1, t2, t3, t4⟩ := hi i hlt
      obtain ⟨x0, e0, -, w0⟩ := DataW.trod_int Tryz.underlying3 t0
      obtain ⟨x1, e1, -, w1⟩ := DataW.trod_int Tryz.underlying3 t1
      obtain ⟨x2, e2, -, w2⟩ := DataW.trod_int Tryz.underlying3 t2
      obtain ⟨x3, e3, -, w3⟩ := DataW.trod_int Tryz.underlying3 t3
      obtain ⟨x4, e4, -, w4⟩ := DataW.trod_int Tryz.underlying2 t4
      simp at e0 e1 e2 e3 e4
      subst e0
      subst e1
      subst e2
      subst e3
      subst e4
      exact ⟨⟨x0, x1, x2, x3, x4⟩, ⟨c0, c1, c2, c3, c4⟩, wf64 w4⟩
    have hall : ∃ g : Nat → ActD, ∀ i, i < len → (W.cell? (ad.add (i * 5)) = some (.int .i64 (g i).k) ∧ W.cell? (ad.add (i * 5 + 1)) = some (.int .i64 (g i).a) ∧ W.cell? (ad.add (i * 5 + 2)) = some (.int .i64 (g i).i) ∧ W.cell? (ad.add (i * 5 + 3)) = some (.int .i64 (g i).o) ∧ W.cell? (ad.add (i * 5 + 4)) = some (.int .i64 (g i).w)) ∧
        (-9223372036854775808 ≤ (g i).w ∧ (g i).w ≤ 9223372036854775807) :=
      ⟨fun i => if h : i < len then (key i h).choose else ⟨0, 0, 0, 0, 0⟩, fun i hlt => by simp only [hlt, dif_pos]; exact (key i hlt).choose_spec⟩
    obtain ⟨g, hg⟩ := hall
    have hlen : ((List.range len).map g).length = len := by simp
    refine ⟨(List.range len).map g, ?_, fun x hx => ?_⟩
    · rcases Nat.eq_zero_or_pos len with h0 | h0
      · subst h0
        obtain ⟨xb, xo, xs⟩ := ad
        exact Or.inl ⟨rfl, _, _, rfl⟩
      · have hs : ad.spot = none := by
          have := World.cell?_spot (hg 0 h0).1.1
          simpa [Addr.add] using this
        obtain ⟨xb, xo, xs⟩ := ad
        have hs' : xs = none := hs
        subst hs'
        unfold maxLen at hm
        have hadd : ∀ j, (⟨xb, xo, none⟩ : Addr).add j = ⟨xb, xo + j, none⟩ := fun j => by unfold Addr.add; split <;> simp_all
        refine Or.inr ⟨by omega, xb, xo, cap, by rw [hlen], fun i hi' => ?_⟩
        have hi2 : i < len := by omega
        have hgi : ((List.range len).map g)[i] = g i := by simp
        rw [hgi]
        have := (hg i hi2).1
        rw [hadd, hadd, hadd, hadd, hadd] at this
        simpa [Nat.add_assoc] using this
    · obtain ⟨i, hi', rfl⟩ := List.mem_map.1 hx
      exact (hg i (List.mem_range.1 hi')).2

end Go.Proofs.YtlfihaajnjeaeaaGreatDoor

/-
  A box that holds a net's header is none of the blocks in which a graph, a net lies.
-/
namespace Go.Proofs.YtlfihaajnjeaeaaGreatDoor
open Go.RowKit

/-- No number among these cells. -/
def HdrC (cs : Array Value) : Prop := ∀ (i : Nat) (k : IntKind) (x : Int), cs[i]? ≠ some (.int k x)
theorem hdr3 (p q r : Option Addr) (a b c d e f : Nat) : HdrC #[.slice p a b, .slice q c d, .slice r e f] := by
  intro i k x h
  match i, h with
  | 0, h => simp at h
  | 1, h => simp at h
  | 2, h => simp at h
  | i + 3, h => simp at h
section
variable {P : Nat → Prop} {w w' : World} {v : Value} {s : Nat} {cs : Array Value} {t : TypeId}
theorem HdrC.ne (hc : HdrC cs) (hk : Blk w s cs t) {b o : Nat} {k : IntKind} {x : Int} (h : w.cell? ⟨b, o, none⟩ = some (.int k x)) : b ≠ s := by
  rintro rfl
  rw [cell_of_row w b o cs t (0, 0) hk] at h
  exact hc o k x h
theorem Tris.off {l : List Tri} (h : Tris w v l) (hk : Blk w s cs t) (hc : HdrC cs) : Av (fun b => b ≠ s) v := by
  rcases h with ⟨rfl, p, c, rfl, -⟩ | ⟨hl, b, o, c, h1, h2, rfl, h3⟩
  · exact Av.nil _ _ _
  · intro b' o' s' n' c' e h0
    injection e with e1 e2 e3
    injection e1 with e1
    injection e1 with e1
    subst e1
    exact hc.ne hk (h3 0 (by omega)).1
theorem I64s.off {l : List Int} (h : I64s w v l) (hk : Blk w s cs t) (hc : HdrC cs) : Av (fun b => b ≠ s) v := by
  rcases h with ⟨rfl, p, c, rfl, -⟩ | ⟨hl, b, o, c, h1, h2, rfl, h3⟩
  · exact Av.nil _ _ _
  · intro b' o' s' n' c' e h0
    injection e with e1 e2 e3
    injection e1 with e1
    injection e1 with e1
    subst e1
    exact hc.ne hk (h3 0 (by omega))
theorem TabsA.off {l : List Tab} (h : TabsA P w v l) (hk : Blk w s cs t) (hc : HdrC cs) : TabsA (fun b => P b ∧ b ≠ s) w v l := by
  rcases h with h | ⟨hl, b, o, c, h1, h2, h3, h4⟩
  · exact Or.inl h
  · refine Or.inr ⟨hl, b, o, c, h1, h2, h3, fun i hi => ?_⟩
    obtain ⟨hp, u, x, y, z, k, ha⟩ := h4 i hi
    exact ⟨⟨hp, hc.ne hk x⟩, u, x, y, z, k, ha.both (k.off hk hc)⟩
theorem NetA.off {n : NetD} (h : NetA P w v n) (hk : Blk w s cs t) (hc : HdrC cs) : NetA (fun b => P b ∧ b ≠ s) w v n := by
  obtain ⟨uv, ua, ut, e, ⟨h1, a1⟩, ⟨h2, a2⟩, h3⟩ := h
  exact ⟨uv, ua, ut, e, ⟨h1, a1.both (h1.off hk hc)⟩, ⟨h2, a2.both (h2.off hk hc)⟩, h3.off hk hc⟩
/-- A write to such a box leaves the net. -/
theorem NetA.box {n : NetD} (h : NetA P w v n) (hk : Blk w s cs t) (hc : HdrC cs) (k : Keep (fun b => b ≠ s) w w') : NetA P w' v n := ((h.off hk hc).keep (k.mono fun _ h => h.2)).mono fun _ h => h.1
end
section
variable {P : Nat → Prop} {w w0 w' : World} {p s : Nat} {n : NetD} {uv va vt : Value} {b1 d1 b2 d2 : Nat} {cs : Array Value}
theorem SideAt.off {b d m k : Nat} {L : Nat → List Int} {f : Nat → Int} (h : SideAt P w b d m k L f) (hk : Blk w s cs 26) (hc : HdrC cs) : SideAt (fun b => P b ∧ b ≠ s) w b d m k L f := by
  obtain ⟨us, h1, h2, h3, h4, h5, h6⟩ := h
  exact ⟨us, h1, h2, ⟨h3, h1.ne hk (by decide)⟩, h4, ⟨h5, h4.ne hk (by decide)⟩, fun i u hu => ⟨(h6 i u hu).1, (h6 i u hu).2.both ((h6 i u hu).1.off hk hc)⟩⟩
theorem GrS.off (h : GrS P w p n uv va vt b1 d1 b2 d2) (hk : Blk w s cs 26) (hc : HdrC cs) : GrS (fun b => P b ∧ b ≠ s) w p n uv va vt b1 d1 b2 d2 := by
  obtain ⟨us, t1, t2⟩ := h.t
  exact ⟨h.k, ⟨h.p, h.k.ne hk (by decide)⟩, h.v, h.av.both (h.v.off hk hc), h.a, ⟨us, t1, t2.1, fun i t u e1 e2 => ⟨(t2.2 i t u e1 e2).1, (t2.2 i t u e1 e2).2.both ((t2.2 i t u e1 e2).1.off hk hc)⟩⟩, h.ins.off hk hc, h.outs.off hk hc⟩
/-- A write to such a box leaves the graph. -/
theorem GraphAt.box (h : GraphAt P w p n va vt) (hk : Blk w s cs 26) (hc : HdrC cs) (k : Keep (fun b => b ≠ s) w w') : GraphAt P w' p n va vt := by
  obtain ⟨uv, b1, d1, b2, d2, h⟩ := h
  obtain ⟨us, t1, -⟩ := h.t
  exact ⟨uv, b1, d1, b2, d2, ((h.off hk hc).keep k (fun _ h => h.2) (fun b e => by rintro rfl; exact own_ne_blk h.a hk (by decide) e) (fun b e => by rintro rfl; exact own_ne_blk t1 hk (by decide) e)).mono fun _ h => h.1⟩
theorem Gr1.box (h : Gr1 w0 w p n va vt) (hk : Blk w s cs 26) (hc : HdrC cs) (hs : w0.heap.size ≤ s) (k : Keep (fun b => b ≠ s) w w') : Gr1 w0 w' p n va vt :=
  ⟨h.g.box hk hc k, h.n, h.b.trans (k.below (fun b hb => by omega) h.b.size), h.o⟩
/-- A net's header is put into a box. -/
theorem keep_hdr (w : World) (s : Nat) (x y z : Value) : Keep (fun b => b ≠ s) w (((w.setCell ⟨s, 0, none⟩ x).setCell ⟨s, 1, none⟩ y).setCell ⟨s, 2, none⟩ z) := (((Keep.refl _ _).setCell (fun h => h rfl) _ _).setCell (fun h => h rfl) _ _).setCell (fun h => h rfl) _ _
theorem blk_hdr {w : World} {s : Nat} {a b c : Value} {t : TypeId} (h : Blk w s #[a, b, c] t) (x y z : Value) : Blk (((w.setCell ⟨s, 0, none⟩ x).setCell ⟨s, 1, none⟩ y).setCell ⟨s, 2, none⟩ z) s #[x, y, z] t := ((h.set 0 x).set 1 y).set 2 z
end
/-- A header in the box s. -/
def HdrAt (vs : List Value) (w : World) (s : Nat) (m : NetD) : Prop := ∃ (q1 q2 q3 : Option Addr) (c1 c2 c3 : Nat), Blk w s #[.slice q1 m.v.length c1, .slice q2 m.a.length c2, .slice q3 m.t.length c3] 26 ∧ NetA (Off vs) w (.agg #[.slice q1 m.v.length c1, .slice q2 m.a.length c2, .slice q3 m.t.length c3]) m
def ZeroAt (w : World) (s : Nat) : Prop := Blk w s #[.slice none 0 0, .slice none 0 0, .slice none 0 0] 26
def DoneP (vs : List Value) (m : NetD) (v : Value) (w : World) : Prop := ∃ u, v = .tuple #[u, .bool true] ∧ NetA (Off vs) w u m
/-- What each step keeps: where the box lies, what the net is. -/
def GG.RlM (vs : List Value) (M : NetD) (s : Nat) (w : World) (s' : Nat) (w' : World) : Prop := (s ≠ 0 → s' = s) ∧ ∀ v, NetA (Off vs) w v M → NetA (Off vs) w' v M
theorem DoneP.keep {vs : List Value} {M : NetD} {v : Value} {s s' : Nat} {w w' : World} (h : DoneP vs M v w) (k : GG.RlM vs M s w s' w') : DoneP vs M v w' := by
  obtain ⟨u, e, h⟩ := h
  exact ⟨u, e, k.2 _ h⟩
theorem GG.RlM.refl {vs : List Value} {M : NetD} {s : Nat} {w : World} : GG.RlM vs M s w s w := ⟨fun _ => rfl, fun _ h => h⟩
theorem graph_mut {P : Nat → Prop} {w : World} {p : Nat} {n : NetD} {va vt : Value} (h : GraphAt P w p n va vt) : ∀ v ∈ [va, vt], MutR w v := by
  intro v hv
  simp at hv
  rcases hv with rfl | rfl
  · exact h.arcs
  · exact h.tabs
theorem GG.DoS.mut {j : Nat} {P : Nat → Prop} {va vt : Value} {p : Nat} {n m : NetD} {w0 W0 : World} {dn : Nat → Bool} {u : Unit} {w : World} (h : GG.DoS j P va vt p n m w0 W0 dn u w) : ∀ v ∈ [va, vt], MutR w v := by
  cases e : dn j with
  | false => exact graph_mut (h.g0 e)
  | true => exact graph_mut (h.g1 e)
/-- While an act is done in a region that draws its order (6), and what it answers is laid (11) into a new box (10). -/
structure GG.ActS (vs : List Value) (va vt : Value) (p : Nat) (n m : NetD) (w0 W0 : World) (dn : Nat → Bool) (s : Nat) (w : World) : Prop where
  d : GG.DoS 6 (Off vs) va vt p n m w0 W0 dn () w
  z : dn 10 = false → s = 0
  lo : dn 10 = true → W0.heap.size ≤ s
  w0le : w0.heap.size ≤ W0.heap.size
  ord : dn 11 = true → dn 10 = true
  b0 : dn 10 = true → dn 11 = false → ZeroAt w s
  b1 : dn 11 = true → HdrAt vs w s m
section
variable {vs : List Value} {va vt : Value} {p : Nat} {n m : NetD} {w0 W0 w w' : World} {dn : Nat → Bool} {s : Nat}
theorem GG.ActS.start (h : GraphAt (Off vs) W0 p n va vt) (hb : Below w0.heap.size w0 W0) : GG.ActS vs va vt p n m w0 W0 (fun _ => false) 0 W0.drew :=
  ⟨GG.DoS.start h hb, fun _ => rfl, fun h => (by cases h), hb.size, fun h => (by cases h), fun h => (by cases h), fun h => (by cases h)⟩
theorem GG.done_ne {i k : Nat} (h : k ≠ i) : GG.doneG dn i k = dn k := if_neg h
theorem GG.done_eq {i : Nat} : GG.doneG dn i i = true := if_pos rfl
theorem GG.ActS.step (h : GG.ActS vs va vt p n m w0 W0 dn s w) {i : Nat} (h6 : 6 ≠ i) (h10 : 10 ≠ i) (h11 : 11 ≠ i) : GG.ActS vs va vt p n m w0 W0 (GG.doneG dn i) s w :=
  ⟨h.d.step h6 (Below.refl _ _), fun e => h.z (by rwa [GG.done_ne h10] at e), fun e => h.lo (by rwa [GG.done_ne h10] at e), h.w0le, fun e => (by rw [GG.done_ne h10]; rw [GG.done_ne h11] at e; exact h.ord e), fun e f => (by rw [GG.done_ne h10] at e; rw [GG.done_ne h11] at f; exact h.b0 e f), fun e => (by rw [GG.done_ne h11] at e; exact h.b1 e)⟩
theorem GG.ActS.still {i : Nat} (h6 : 6 ≠ i) (h10 : 10 ≠ i) (h11 : 11 ≠ i) : GG.Still (GG.ActS vs va vt p n m w0 W0) (GG.RlM vs m) i := ⟨fun _ _ _ h => h.step h6 h10 h11, fun _ _ => GG.RlM.refl⟩
theorem GG.ActS.put (h : GG.ActS vs va vt p n m w0 W0 dn s w) (ha : va ∈ vs) (ht : vt ∈ vs) (ho : ∀ b, b < w0.heap.size → Off [va, vt] b) (hg : GraphAt (Off vs) w' p m va vt) (hk : Keep (Off [va, vt]) w w') : GG.ActS vs va vt p n m w0 W0 (GG.doneG dn 6) s w' ∧ GG.RlM vs m s w s w' := by
  have hs : ∀ b, Off vs b → Off [va, vt] b := Off.sub (fun v hv => by simp at hv; rcases hv with rfl | rfl <;> assumption)
  have e10 : GG.doneG dn 6 10 = dn 10 := GG.done_ne (by decide)
  have e11 : GG.doneG dn 6 11 = dn 11 := GG.done_ne (by decide)
  refine ⟨⟨h.d.put hg hk ho, fun e => h.z (by rwa [e10] at e), fun e => h.lo (by rwa [e10] at e), h.w0le, fun e => (by rw [e10]; rw [e11] at e; exact h.ord e), fun e f => ?_, fun e => ?_⟩, fun _ => rfl, fun v hv => hv.keep (hk.mono hs)⟩
  · rw [e10] at e
    rw [e11] at f
    have := h.b0 e f
    exact hk.blk this (off_blk h.d.mut this (by decide) (by decide))
  · rw [e11] at e
    obtain ⟨q1, q2, q3, c1, c2, c3, h1, h2⟩ := h.b1 e
    exact ⟨q1, q2, q3, c1, c2, c3, hk.blk h1 (off_blk h.d.mut h1 (by decide) (by decide)), h2.keep (hk.mono hs)⟩
theorem GG.ActS.box (h : GG.ActS vs va vt p n m w0 W0 dn s w) (hd : dn 10 = false) : GG.ActS vs va vt p n m w0 W0 (GG.doneG dn 10) w.heap.size (w.alloc (.cells #[.slice none 0 0, .slice none 0 0, .slice none 0 0] 26)) ∧ GG.RlM vs m s w w.heap.size (w.alloc (.cells #[.slice none 0 0, .slice none 0 0, .slice none 0 0] 26)) := by
  have e11 : GG.doneG dn 10 11 = dn 11 := GG.done_ne (by decide)
  have h11 : dn 11 = false := by
    cases e : dn 11 with
    | false => rfl
    | true => rw [h.ord e] at hd; cases hd
  exact ⟨⟨h.d.step (by decide) (below_new _), fun e => (by rw [GG.done_eq] at e; cases e), fun _ => h.d.k.size, h.w0le, fun _ => GG.done_eq, fun _ _ => Blk.new _ _ _ _ rfl, fun e => (by rw [e11, h11] at e; cases e)⟩, fun e => absurd (h.z hd) e, fun v hv => hv.old (below_new _)⟩
theorem GG.ActS.zero (h : GG.ActS vs va vt p n m w0 W0 dn s w) (hs : s ≠ 0) (hd : dn 11 = false) : ZeroAt w s := by
  cases e : dn 10 with
  | true => exact h.b0 e hd
  | false => exact absurd (h.z e) hs
theorem GG.ActS.lay (h : GG.ActS vs va vt p n m w0 W0 dn s w) (hs : s ≠ 0) (hd : dn 11 = false) {q1 q2 q3 : Option Addr} {c1 c2 c3 : Nat} (hu : NetA (Off vs) w (.agg #[.slice q1 m.v.length c1, .slice q2 m.a.length c2, .slice q3 m.t.length c3]) m) (hw : ((w.setCell ⟨s, 0, none⟩ (.slice q1 m.v.length c1)).setCell ⟨s, 1, none⟩ (.slice q2 m.a.length c2)).setCell ⟨s, 2, none⟩ (.slice q3 m.t.length c3) = w') :
    GG.ActS vs va vt p n m w0 W0 (GG.doneG dn 11) s w' ∧ GG.RlM vs m s w s w' := by
  have h10 : dn 10 = true := by
    cases e : dn 10 with
    | true => rfl
    | false => exact absurd (h.z e) hs
  have e10 : GG.doneG dn 11 10 = dn 10 := GG.done_ne (by decide)
  have e6 : GG.doneG dn 11 6 = dn 6 := GG.done_ne (by decide)
  have hz := h.b0 h10 hd
  have hl := h.lo h10
  have hk : Keep (fun b => b ≠ s) w w' := hw ▸ keep_hdr w s _ _ _
  have hn : ∀ v, NetA (Off vs) w v m → NetA (Off vs) w' v m := fun v hv => hv.box hz (hdr3 _ _ _ _ _ _ _ _ _) hk
  have hz0 := h.d.b.size
  have hzw : w0.heap.size ≤ s := by
    exact Nat.le_trans h.w0le hl
  refine ⟨⟨⟨h.d.k.trans2 (hk.mono (fun b hb => by omega)), h.d.b.trans (hk.below (fun b hb => by omega) hz0), fun e => (h.d.g0 (by rwa [e6] at e)).box hz (hdr3 _ _ _ _ _ _ _ _ _) hk, fun e => (h.d.g1 (by rwa [e6] at e)).box hz (hdr3 _ _ _ _ _ _ _ _ _) hk⟩, fun e => (by rw [e10, h10] at e; cases e), fun _ => hl, h.w0le, fun _ => (by rw [e10]; exact h10), fun _ e => (by rw [GG.done_eq] at e; cases e), fun _ => ⟨q1, q2, q3, c1, c2, c3, hw ▸ blk_hdr hz _ _ _, hn _ hu⟩⟩, fun _ => rfl, hn⟩
end
namespace GG
variable {σ : Type} {Rl : σ → World → σ → World → Prop} {P : Program} {ops : Array Oper} {n : Nat} {A : List (List Nat)} {S : (Nat → Bool) → σ → World → Prop} {Ds : List (Fact Rl)} {fin : Act → Prop} {i : Nat} {o : Oper} {r : List Oper} {c : Act}
/-- A store. -/
theorem grow_store (hf : factAt Ds i = .lit undef) (hw : Region.wanted o (yielded ops c.tmps) = true)
    (hrun : ∀ dn s w, S dn s w → dn i = false → (∀ k ∈ A.getD i [], holdsAt ops Ds n k c s w) → ∃ s' w', (execOp c.eval o).run P w = .ok .skip w' ∧ S (doneG dn i) s' w' ∧ Rl s w s' w' ∧ w.heap.size ≤ w'.heap.size)
    {c' : Act} (hc : c.put o.dst undef = c') (h : GrowSeq P ops n A S Ds fin (i + 1) r c') : GrowSeq P ops n A S Ds fin i (o :: r) c := by
  subst hc
  refine ⟨fun dn s w hS hd H K hK => ?_, by rw [hf]; exact h⟩
  rw [if_pos hw]
  obtain ⟨s', w', h1, h3, h4⟩ := hrun dn s w hS hd H
  unfold Oper.wp
  rw [h1]
  exact hK undef s' w' (by rw [hf]; exact rfl) (fun h => by rw [hf] at h; cases h) h3 h4
end GG
theorem do6_to {w0 w : World} {vs : List Value} {p : Nat} {n M : NetD} {va vt u : Value} (hg : ErrT w0) (hb0 : Below w0.heap.size w0 w) (ho : ∀ b, b < w0.heap.size → Off [va, vt] b) (h : GraphAt (Off vs) w p n va vt) (hn : GrN n) (hu : NetA (Off vs) w u n) (ha : va ∈ vs) (ht : vt ∈ vs) (hm : ∀ v ∈ vs, MutR w v) (x : ActD) (hx : -9223372036854775808 ≤ x.w ∧ x.w ≤ 9223372036854775807) (hM : (actN n x).1 = M) :
    Calls Tryz.prog 7 #[gp p, u, actV x] w fun e w' => ∃ u', e = .returned (.tuple #[u', .bool true]) ∧ NetA (Off vs) w' u' M ∧ GraphAt (Off vs) w' p M va vt ∧ Keep (Off [va, vt]) w w' := by
  subst hM
  exact do6_any hg hb0 ho h hn hu ha ht hm x hx.1 hx.2
theorem act_bounds {l : List ActD} (h : InAct l) {k : Nat} (hk : k < l.length) : -9223372036854775808 ≤ l[k].w ∧ l[k].w ≤ 9223372036854775807 := h _ (List.getElem_mem hk)

end Go.Proofs.YtlfihaajnjeaeaaGreatDoor
