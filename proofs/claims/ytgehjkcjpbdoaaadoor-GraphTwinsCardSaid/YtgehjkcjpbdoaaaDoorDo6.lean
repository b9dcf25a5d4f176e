/-
  The law's Do: a change, of a graph and of the document's net.
-/
import Derived.Test.YtgehjkcjpbdoaaaDoorKnown6
import Derived.Test.YtgehjkcjpbdoaaaDoorE4
namespace Go.Proofs.YtgehjkcjpbdoaaaDoor
open Go.RowKit

/-- A change: its kind, what it names, what it costs. -/
structure ActD where
  k : Int
  a : Int
  i : Int
  o : Int
  w : Int
/-- The net behind it, and what is wrong with it. -/
def actN (n : NetD) (x : ActD) : NetD × Flt := if x.k = 0 then setN n x.a x.w else bendN n x.a x.i x.o x.w
theorem actN_grn {n : NetD} (h : GrN n) (x : ActD) : GrN (actN n x).1 := by
  unfold actN
  split
  · exact setN_grn h _ _
  · exact bendN_grn h _ _ _ _
def actV (x : ActD) : Value := .agg #[.int .i64 x.k, .int .i64 x.a, .int .i64 x.i, .int .i64 x.o, .int .i64 x.w]
def actC (x : ActD) : Array Value := #[.int .i64 x.k, .int .i64 x.a, .int .i64 x.i, .int .i64 x.o, .int .i64 x.w]
theorem rset_errF {w : World} {v : Value} {n : NetD} (h : NetV w v n) (a c : Int) (c0 : -9223372036854775808 ≤ c) (c1 : c ≤ 9223372036854775807) {F : Flt} (hF : (setN n a c).2 = F) (hne : ¬ F.2 = 0) :
    Calls Tryd.prog 36 #[v, .int .i64 a, .int .i64 c] w fun e w' => ∃ wv, e = .returned (.tuple #[v, wv]) ∧ WrongV w' wv F.1 F.2 ∧ Below w.heap.size w w' := by
  unfold setN at hF
  cases ha : n.there a with
  | false =>
    rw [ha, if_pos rfl] at hF
    subst hF
    exact rset_name h a c ha
  | true =>
    rw [ha, if_neg (by simp)] at hF
    cases hw : wgt c with
    | true =>
      rw [hw, if_neg (by simp)] at hF
      subst hF
      exact absurd rfl hne
    | false =>
      rw [hw, if_pos rfl] at hF
      subst hF
      exact rset_range h a c c0 c1 ha hw
theorem rbend_errF {w : World} {v : Value} {n : NetD} (h : NetV w v n) (hn : GrN n) (t x y c : Int) (c0 : -9223372036854775808 ≤ c) (c1 : c ≤ 9223372036854775807) {F : Flt} (hF : (bendN n t x y c).2 = F) (hne : ¬ F.2 = 0) :
    Calls Tryd.prog 37 #[v, .int .i64 t, .int .i64 x, .int .i64 y, .int .i64 c] w fun e w' => ∃ wv, e = .returned (.tuple #[v, wv]) ∧ WrongV w' wv F.1 F.2 ∧ Below w.heap.size w w' := by
  unfold bendN at hF
  by_cases ht : t < 0 ∨ n.t.length ≤ t
  · rw [if_pos ht] at hF
    subst hF
    by_cases h0 : t < 0
    · exact rbend_name0 h t x y c h0
    · exact rbend_name1 h t x y c h0 (by omega)
  · rw [if_neg ht] at hF
    obtain ⟨k, rfl⟩ : ∃ k : Nat, t = k := ⟨t.toNat, by omega⟩
    have hk : k < n.t.length := by omega
    rw [NetGood.tab_at k hk] at hF
    by_cases he : (withW n.t[k].1 n.t[k].2.1 x y c).2 = 0
    · rw [if_pos he] at hF
      subst hF
      exact absurd rfl hne
    · rw [if_neg he] at hF
      subst hF
      exact rbend_with h hn k hk x y c c0 c1 he
theorem setN_ok {n : NetD} {a c : Int} (h : (setN n a c).2.2 = 0) : ∃ (k : Nat) (hk : k < n.a.length), a = k ∧ wgt c = true ∧ (setN n a c).1 = ⟨n.v, n.a.set k (n.a[k].1, n.a[k].2.1, c), n.t⟩ := by
  unfold setN at h ⊢
  cases ha : n.there a with
  | false => rw [ha, if_pos rfl] at h; simp at h
  | true =>
    cases hw : wgt c with
    | false => rw [ha, if_neg (by simp), hw, if_pos rfl] at h; simp at h
    | true =>
      obtain ⟨k, rfl, hk⟩ := there_of ha
      refine ⟨k, hk, rfl, rfl, ?_⟩
      rw [if_neg (by simp), if_neg (by simp), NetGood.arc_at k hk]
      rfl
theorem bendN_ok {n : NetD} {t x y c : Int} (h : (bendN n t x y c).2.2 = 0) : ∃ (k : Nat) (hk : k < n.t.length), t = k ∧ wgt c = true ∧ (0 ≤ x ∧ x < n.t[k].1 ∧ 0 ≤ y ∧ y < n.t[k].2.1) ∧ (bendN n t x y c).1 = ⟨n.v, n.a, n.t.set k (n.t[k].1, n.t[k].2.1, n.t[k].2.2.set (x * n.t[k].2.1 + y).toNat c)⟩ := by
  unfold bendN at h ⊢
  by_cases ht : t < 0 ∨ n.t.length ≤ t
  · rw [if_pos ht] at h; simp at h
  · rw [if_neg ht] at h ⊢
    obtain ⟨k, rfl⟩ : ∃ k : Nat, t = k := ⟨t.toNat, by omega⟩
    have hk : k < n.t.length := by omega
    rw [NetGood.tab_at k hk] at h ⊢
    by_cases he : (withW n.t[k].1 n.t[k].2.1 x y c).2 = 0
    · rw [if_pos he] at h ⊢
      rcases withW_or n.t[k].1 n.t[k].2.1 x y c with ⟨-, h1, h2⟩ | h3
      · exact ⟨k, hk, rfl, h2, h1, by rw [withT_ok he]; rfl⟩
      · exact absurd he h3
    · rw [if_neg he] at h
      exact absurd h he
/-- While an act is done, in a region that draws its order: the graph as it was, or as it will be. -/
structure GG.DoS (j : Nat) (P : Nat → Prop) (va vt : Value) (p : Nat) (n m : NetD) (w0 W0 : World) (dn : Nat → Bool) (_ : Unit) (w : World) : Prop where
  k : Keep (Off [va, vt]) W0 w
  b : Below w0.heap.size w0 w
  g0 : dn j = false → GraphAt P w p n va vt
  g1 : dn j = true → GraphAt P w p m va vt
def GG.RlT (_ : Unit) (_ : World) (_ : Unit) (_ : World) : Prop := True
theorem GG.DoS.step {j : Nat} {P : Nat → Prop} {va vt : Value} {p : Nat} {n m : NetD} {w0 W0 : World} {dn : Nat → Bool} {u : Unit} {w w' : World} (h : GG.DoS j P va vt p n m w0 W0 dn u w) {i : Nat} (hi : j ≠ i) (hb : Below w.heap.size w w') : GG.DoS j P va vt p n m w0 W0 (GG.doneG dn i) u w' := by
  have e : GG.doneG dn i j = dn j := if_neg hi
  exact ⟨h.k.trans (Keep.of hb), bOn6 h.b hb, fun h1 => (h.g0 (by rw [← e]; exact h1)).old hb, fun h1 => (h.g1 (by rw [← e]; exact h1)).old hb⟩
theorem GG.DoS.still {j : Nat} {P : Nat → Prop} {va vt : Value} {p : Nat} {n m : NetD} {w0 W0 : World} {i : Nat} (hi : j ≠ i) : GG.Still (GG.DoS j P va vt p n m w0 W0) GG.RlT i := ⟨fun _ _ _ h => h.step hi (Below.refl _ _), fun _ _ => trivial⟩
theorem GG.DoS.start {j : Nat} {P : Nat → Prop} {va vt : Value} {p : Nat} {n m : NetD} {w0 W0 : World} (h : GraphAt P W0 p n va vt) (hb : Below w0.heap.size w0 W0) : GG.DoS j P va vt p n m w0 W0 (fun _ => false) () W0.drew :=
  ⟨Keep.of (Below.refl _ _).drew, hb.drew, fun _ => h.old (Below.refl _ _).drew, fun h => by cases h⟩
theorem GG.DoS.put {j : Nat} {P : Nat → Prop} {va vt : Value} {p : Nat} {n m : NetD} {w0 W0 : World} {dn : Nat → Bool} {u : Unit} {w w' : World} (h : GG.DoS j P va vt p n m w0 W0 dn u w) (hg : GraphAt P w' p m va vt) (hk : Keep (Off [va, vt]) w w') (ho : ∀ b, b < w0.heap.size → Off [va, vt] b) : GG.DoS j P va vt p n m w0 W0 (GG.doneG dn j) u w' :=
  ⟨h.k.trans hk, h.b.trans (hk.below ho h.b.size), fun e => (by rw [show GG.doneG dn j j = true from if_pos rfl] at e; cases e), fun _ => hg⟩
theorem Keep.trans2 {P : Nat → Prop} {u v w : World} (h : Keep P u v) (k : Keep (fun b => b < u.heap.size) v w) : Keep P u w :=
  ⟨k.os.trans h.os, k.tape.trans h.tape, k.output.trans h.output, Nat.le_trans h.size k.size, fun i hi hp => (k.block i (Nat.lt_of_lt_of_le hi h.size) hi).trans (h.block i hi hp)⟩
theorem NetA.both {P : Nat → Prop} {w : World} {v : Value} {n : NetD} (h : NetA P w v n) : NetA (fun b => P b ∧ b < w.heap.size) w v n := by
  obtain ⟨uv, ua, ut, e, ⟨h1, a1⟩, ⟨h2, a2⟩, h3⟩ := h
  refine ⟨uv, ua, ut, e, ⟨h1, a1.both h1.av⟩, ⟨h2, a2.both h2.av⟩, ?_⟩
  rcases h3 with h | ⟨hl, b, o, c, k1, k2, k3, hc⟩
  · exact Or.inl h
  · refine Or.inr ⟨hl, b, o, c, k1, k2, k3, fun i hi => ?_⟩
    obtain ⟨hp, u, x, y, z, k, ha⟩ := hc i hi
    exact ⟨⟨hp, World.block_lt_of_cell? w _ x⟩, u, x, y, z, k, ha.both k.av⟩
section
variable {vs : List Value} {w : World} {p : Nat} {n : NetD} {va vt u : Value}

set_option maxHeartbeats 8000000 in
set_option maxRecDepth 100000 in
theorem do6_seterr {w0 : World} (hg : ErrT w0) (hb0 : Below w0.heap.size w0 w) (ho : ∀ b, b < w0.heap.size → Off [va, vt] b) (h : GraphAt (Off vs) w p n va vt) (hn : GrN n) (hu : NetA (Off vs) w u n) (ha : va ∈ vs) (ht : vt ∈ vs) (hm : ∀ v ∈ vs, MutR w v) (x : ActD) (c0 : -9223372036854775808 ≤ x.w) (c1 : x.w ≤ 9223372036854775807) (hk : x.k = 0) (F : Flt) (hF : (setN n x.a x.w).2 = F) (hne : ¬ F.2 = 0) :
    Calls Tryd.prog 11 #[gp p, u, actV x] w fun e w' => ∃ u', e = .returned (.tuple #[u', .bool true]) ∧ NetA (Off vs) w' u' n ∧ GraphAt (Off vs) w' p n va vt ∧ Keep (Off [va, vt]) w w' := by
  have hk0 : (x.k == 0) = true := by simpa using hk
  obtain ⟨vq, aq, tq, vc, ac, tc, rfl, -⟩ := hu.net.shape
  obtain ⟨xk, xa, xi, xo, xw⟩ := x
  simp only [] at c0 c1 hk0 hF ⊢
  have HG := Lib.hid hg
  have HN := Lib.hid hn
  have HO := Lib.hid ho
  have HA := Lib.hid ha
  have HT := Lib.hid ht
  have HM := Lib.hid hm
  have HC0 := Lib.hid (And.intro c0 c1)
  have HF := Lib.hid hF
  have HNE := Lib.hid hne
  have HFL : Hid (1 ≤ F.1.length ∧ F.1.length ≤ 2 ∧ ¬ F.2 = 0) := Lib.hid (by rw [← hF]; rcases setN_flt n xa xw with h | h; exact absurd (by rw [← hF]; exact h.2) hne; exact h)
  have hu1 : NetA (fun b => Off vs b ∧ b < w.heap.size) w (netVal n vq aq tq vc ac tc) n := hu.both
  clear hg hn ho ha ht hm c0 c1 hk hF hne
  unfold actV
  go_enter Tryd.func11, Tryd.ntmps11
  go_wp2_with fail
  obtain ⟨W0, hW0⟩ := named (((w.alloc (.cells #[.slice vq n.v.length vc, .slice aq n.a.length ac, .slice tq n.t.length tc] 26)).alloc (.cells #[.int .i64 xk, .int .i64 xa, .int .i64 xi, .int .i64 xo, .int .i64 xw] 49)).alloc (.cells #[.slice none 0 0, .slice none 0 0, .slice none 0 0] 26))
  rw [← hW0]
  have hbw : Below w.heap.size w W0 := by rw [hW0]; exact (below_alloc2 _ _).alloc (by simp; omega) _
  have BW := Lib.hid hbw
  have KX : Hid (Blk W0 (w.heap.size + 1) #[.int .i64 xk, .int .i64 xa, .int .i64 xi, .int .i64 xo, .int .i64 xw] 49) := by rw [hW0]; exact Lib.hid ((Blk.new _ _ _ _ (by simp)).old _)
  have KR : Hid (Blk W0 (w.heap.size + 1 + 1) #[.slice none 0 0, .slice none 0 0, .slice none 0 0] 26) := by rw [hW0]; exact Lib.hid (Blk.new _ _ _ _ (by simp))
  have B0 := Lib.hid (bOn6 hb0 hbw)
  have hgb : GraphAt (fun b => Off vs b ∧ b ≠ w.heap.size + 1 + 1) w p n va vt := h.both.mono (fun b h => ⟨h.1, by have := h.2; omega⟩)
  have G0 := Lib.hid (hgb.old hbw)
  have U0 := Lib.hid (hu1.old hbw)
  have M0 : Hid (∀ v ∈ vs, MutR W0 v) := Lib.hid (fun v hv => (HM.out v hv).old hbw)
  clear hW0 hbw hb0 h hu hu1 hgb
  refine (rset_errF U0.out.net xa xw HC0.out.1 HC0.out.2 HF.out HNE.out).mono ?_
  rintro e w1 ⟨wv, rfl, hW, hb⟩
  obtain ⟨qw, mw, cw, rfl⟩ := hW.shape
  have HW := Lib.hid hW
  have HB := Lib.hid hb
  clear hW hb
  go_wp2_with fail
  obtain ⟨W1, hW1⟩ := named ((w1.alloc (.cells #[.slice vq n.v.length vc, .slice aq n.a.length ac, .slice tq n.t.length tc] 26)).alloc (.cells #[.slice qw mw cw, .int .i64 F.2] 65))
  rw [← hW1]
  have hb1 : Below w1.heap.size w1 W1 := by rw [hW1]; exact below_alloc2 _ _
  have K8 : Hid (Blk W1 w1.heap.size #[.slice vq n.v.length vc, .slice aq n.a.length ac, .slice tq n.t.length tc] 26) := by rw [hW1]; exact Lib.hid ((Blk.new _ _ _ _ rfl).old _)
  have K9 : Hid (Blk W1 (w1.heap.size + 1) #[.slice qw mw cw, .int .i64 F.2] 65) := by rw [hW1]; exact Lib.hid (Blk.new _ _ _ _ (by simp))
  have HB1 := Lib.hid (bOn6 HB.out hb1)
  have HW1 := Lib.hid (HW.out.below hb1)
  clear hW1 hb1 HW HB
  refine' GG.wp_thenL _ 9 (GG.SB W1) [[], [], [], [2], [], [4], [1, 2, 3, 4, 5], [], [1, 2, 3, 4, 5, 6, 7]] (GG.Fact.lit (Rl := GG.RlB) _ :: GG.Fact.lit (Rl := GG.RlB) _ :: GG.Fact.lit (Rl := GG.RlB) _ :: GG.Fact.lit (Rl := GG.RlB) _ :: GG.Fact.lit (Rl := GG.RlB) _ :: GG.Fact.lit (Rl := GG.RlB) _ :: GG.Fact.prop (Rl := GG.RlB) _ _ :: GG.Fact.lit (Rl := GG.RlB) _ :: GG.Fact.lit (Rl := GG.RlB) _ :: []) (by kernel_rfl) rfl (by kernel_rfl) (()) ((Below.refl _ _).drew) ?seqseterr
  case' seqseterr => skip
  (refine' GG.grow_lit (GG.SB.still W1 _) rfl ?wtseterr0 ?runseterr0 ?putseterr0 ?nextseterr0; (case wtseterr0 => rfl); (case runseterr0 => (intro w' hS; (obtain ⟨dn, s, hS⟩ := hS); (have hS : Below W1.heap.size W1 w' := hS); (obtain ⟨a0, a1, a2, -, -, -⟩ := (K8.out.keep hS).o3); (obtain ⟨d0, d1, -, -⟩ := (K9.out.keep hS).o2); (obtain ⟨x0, x1, x2, x3, x4, -⟩ := Blk.o5 (KX.out.keep (HB1.out.trans (hS.mono HB1.out.size)))); clear hS; go_simp; first | done | exact rfl)); (case putseterr0 => (first | (simp only [Act.put, List.setIfInBounds_toArray, List.set_cons_zero, List.set_cons_succ]; first | done | exact rfl) | rfl)); (case' nextseterr0 => skip))
  (refine' GG.grow_lit (GG.SB.still W1 _) rfl ?wtseterr1 ?runseterr1 ?putseterr1 ?nextseterr1; (case wtseterr1 => rfl); (case runseterr1 => (intro w' hS; (obtain ⟨dn, s, hS⟩ := hS); (have hS : Below W1.heap.size W1 w' := hS); (obtain ⟨a0, a1, a2, -, -, -⟩ := (K8.out.keep hS).o3); (obtain ⟨d0, d1, -, -⟩ := (K9.out.keep hS).o2); (obtain ⟨x0, x1, x2, x3, x4, -⟩ := Blk.o5 (KX.out.keep (HB1.out.trans (hS.mono HB1.out.size)))); clear hS; go_simp; first | done | exact rfl)); (case putseterr1 => (first | (simp only [Act.put, List.setIfInBounds_toArray, List.set_cons_zero, List.set_cons_succ]; first | done | exact rfl) | rfl)); (case' nextseterr1 => skip))
  (refine' GG.grow_lit (GG.SB.still W1 _) rfl ?wtseterr2 ?runseterr2 ?putseterr2 ?nextseterr2; (case wtseterr2 => rfl); (case runseterr2 => (intro w' hS; (obtain ⟨dn, s, hS⟩ := hS); (have hS : Below W1.heap.size W1 w' := hS); (obtain ⟨a0, a1, a2, -, -, -⟩ := (K8.out.keep hS).o3); (obtain ⟨d0, d1, -, -⟩ := (K9.out.keep hS).o2); (obtain ⟨x0, x1, x2, x3, x4, -⟩ := Blk.o5 (KX.out.keep (HB1.out.trans (hS.mono HB1.out.size)))); clear hS; go_simp; first | done | exact rfl)); (case putseterr2 => (first | (simp only [Act.put, List.setIfInBounds_toArray, List.set_cons_zero, List.set_cons_succ]; first | done | exact rfl) | rfl)); (case' nextseterr2 => skip))
  (refine' GG.grow_lit (GG.SB.still W1 _) rfl ?wtseterr3 ?runseterr3 ?putseterr3 ?nextseterr3; (case wtseterr3 => rfl); (case runseterr3 => (intro w' hS; (obtain ⟨dn, s, hS⟩ := hS); (have hS : Below W1.heap.size W1 w' := hS); (obtain ⟨a0, a1, a2, -, -, -⟩ := (K8.out.keep hS).o3); (obtain ⟨d0, d1, -, -⟩ := (K9.out.keep hS).o2); (obtain ⟨x0, x1, x2, x3, x4, -⟩ := Blk.o5 (KX.out.keep (HB1.out.trans (hS.mono HB1.out.size)))); clear hS; go_simp; first | done | exact rfl)); (case putseterr3 => (first | (simp only [Act.put, List.setIfInBounds_toArray, List.set_cons_zero, List.set_cons_succ]; first | done | exact rfl) | rfl)); (case' nextseterr3 => skip))
  (refine' GG.grow_lit (GG.SB.still W1 _) rfl ?wtseterr4 ?runseterr4 ?putseterr4 ?nextseterr4; (case wtseterr4 => rfl); (case runseterr4 => (intro w' hS; (obtain ⟨dn, s, hS⟩ := hS); (have hS : Below W1.heap.size W1 w' := hS); (obtain ⟨a0, a1, a2, -, -, -⟩ := (K8.out.keep hS).o3); (obtain ⟨d0, d1, -, -⟩ := (K9.out.keep hS).o2); (obtain ⟨x0, x1, x2, x3, x4, -⟩ := Blk.o5 (KX.out.keep (HB1.out.trans (hS.mono HB1.out.size)))); clear hS; go_simp; first | done | exact rfl)); (case putseterr4 => (first | (simp only [Act.put, List.setIfInBounds_toArray, List.set_cons_zero, List.set_cons_succ]; first | done | exact rfl) | rfl)); (case' nextseterr4 => skip))
  (refine' GG.grow_lit (GG.SB.still W1 _) rfl ?wtseterr5 ?runseterr5 ?putseterr5 ?nextseterr5; (case wtseterr5 => rfl); (case runseterr5 => (intro w' hS; (obtain ⟨dn, s, hS⟩ := hS); (have hS : Below W1.heap.size W1 w' := hS); (obtain ⟨a0, a1, a2, -, -, -⟩ := (K8.out.keep hS).o3); (obtain ⟨d0, d1, -, -⟩ := (K9.out.keep hS).o2); (obtain ⟨x0, x1, x2, x3, x4, -⟩ := Blk.o5 (KX.out.keep (HB1.out.trans (hS.mono HB1.out.size)))); clear hS; go_simp; first | done | exact rfl)); (case putseterr5 => (first | (simp only [Act.put, List.setIfInBounds_toArray, List.set_cons_zero, List.set_cons_succ]; first | done | exact rfl) | rfl)); (case' nextseterr5 => skip))
  (refine' GG.grow_any_call (p := fun v _ w => FaultV w v F.1 F.2) (hp := fun v s w s' w' h hb => h.below hb) rfl Tryd.func15 (by kernel_rfl) rfl rfl ?wtseterr6 ?runseterr6 ?putseterr6 ?nextseterr6; (case wtseterr6 => rfl); (case runseterr6 => (intro dn s w' hS hd H; (have hS : Below W1.heap.size W1 w' := hS); exact (vSetE (G0.out.old (HB1.out.trans (hS.mono HB1.out.size))) xa xw HC0.out.1 HC0.out.2 HF.out HNE.out).mono (fun e w2 ⟨v, h1, h2, h3⟩ => ⟨v, (), h1, h2, hS.trans (h3.mono hS.size), h3, h3.size⟩))); (case putseterr6 => (intro v; (simp only [Act.put, List.setIfInBounds_toArray, List.set_cons_zero, List.set_cons_succ]; first | done | exact rfl))); (case' nextseterr6 => intro v6))
  (refine' GG.grow_lit (GG.SB.still W1 _) rfl ?wtseterr7 ?runseterr7 ?putseterr7 ?nextseterr7; (case wtseterr7 => rfl); (case runseterr7 => (intro w' hS; (obtain ⟨dn, s, hS⟩ := hS); (have hS : Below W1.heap.size W1 w' := hS); (obtain ⟨a0, a1, a2, -, -, -⟩ := (K8.out.keep hS).o3); (obtain ⟨d0, d1, -, -⟩ := (K9.out.keep hS).o2); (obtain ⟨x0, x1, x2, x3, x4, -⟩ := Blk.o5 (KX.out.keep (HB1.out.trans (hS.mono HB1.out.size)))); clear hS; go_simp; first | done | exact rfl)); (case putseterr7 => (first | (simp only [Act.put, List.setIfInBounds_toArray, List.set_cons_zero, List.set_cons_succ]; first | done | exact rfl) | rfl)); (case' nextseterr7 => skip))
  (refine' GG.grow_lit_call (u := .bool true) rfl Tryd.func24 (by kernel_rfl) rfl rfl ?wtseterr8 ?runseterr8 ?putseterr8 ?nextseterr8; (case wtseterr8 => rfl); (case runseterr8 => (intro dn s w' hS hd H; (have hS : Below W1.heap.size W1 w' := hS); exact (tells_post _ _ F.1 F.2 w' (HG.out.below HG.out.lt (bOn6 (bOn6 B0.out HB1.out) hS)) (H 6 (by decide)) (HW1.out.below hS) (Or.inr HFL.out)).mono (fun e w2 h => ⟨(), h.1, hS.trans (h.2.mono hS.size), h.2, h.2.size⟩))); (case putseterr8 => (first | (simp only [Act.put, List.setIfInBounds_toArray, List.set_cons_zero, List.set_cons_succ]; first | done | exact rfl) | rfl)); (case' nextseterr8 => skip))
  intro dn s w2 hS _ _
  have hS : Below W1.heap.size W1 w2 := hS
  have B2 := HB1.out.trans (hS.mono HB1.out.size)
  have kr := KR.out.keep B2
  have BF := bOn6 BW.out B2
  have G2 := G0.out.old B2
  have U2 := U0.out.old B2
  clear hS
  have KB : Keep (fun b => b ≠ w.heap.size + 1 + 1) w2 (((w2.setCell ⟨w.heap.size + 1 + 1, 0, none⟩ (.slice vq n.v.length vc)).setCell ⟨w.heap.size + 1 + 1, 1, none⟩ (.slice aq n.a.length ac)).setCell ⟨w.heap.size + 1 + 1, 2, none⟩ (.slice tq n.t.length tc)) := (((Keep.refl _ _).setCell (fun h => h rfl) _ _).setCell (fun h => h rfl) _ _).setCell (fun h => h rfl) _ _
  have UF := Lib.hid (U2.mono (Q := fun b => Off vs b ∧ b ≠ w.heap.size + 1 + 1) (fun b h => ⟨h.1, by have := h.2; omega⟩))
  have UFF : Hid (NetA (Off vs) (((w2.setCell ⟨w.heap.size + 1 + 1, 0, none⟩ (.slice vq n.v.length vc)).setCell ⟨w.heap.size + 1 + 1, 1, none⟩ (.slice aq n.a.length ac)).setCell ⟨w.heap.size + 1 + 1, 2, none⟩ (.slice tq n.t.length tc)) (.agg #[.slice vq n.v.length vc, .slice aq n.a.length ac, .slice tq n.t.length tc]) n) := Lib.hid (by have h := (UF.out.keep (KB.mono (fun b h => h.2))).mono (Q := Off vs) (fun b h => h.1); (try simp only [List.length_set] at h); exact h)
  have GF : Hid (GraphAt (Off vs) (((w2.setCell ⟨w.heap.size + 1 + 1, 0, none⟩ (.slice vq n.v.length vc)).setCell ⟨w.heap.size + 1 + 1, 1, none⟩ (.slice aq n.a.length ac)).setCell ⟨w.heap.size + 1 + 1, 2, none⟩ (.slice tq n.t.length tc)) p n va vt) := Lib.hid (by
    exact (G2.keep KB (fun b h => h.2) (fun b e => by have := (HM.out va HA.out).lt e; omega) (fun b e => by have := (HM.out vt HT.out).lt e; omega)).mono (fun b h => h.1))
  have KFF : Hid (Keep (Off [va, vt]) w (((w2.setCell ⟨w.heap.size + 1 + 1, 0, none⟩ (.slice vq n.v.length vc)).setCell ⟨w.heap.size + 1 + 1, 1, none⟩ (.slice aq n.a.length ac)).setCell ⟨w.heap.size + 1 + 1, 2, none⟩ (.slice tq n.t.length tc))) := Lib.hid (by
    have hK2 : Keep (fun b => b < w.heap.size) w2 (((w2.setCell ⟨w.heap.size + 1 + 1, 0, none⟩ (.slice vq n.v.length vc)).setCell ⟨w.heap.size + 1 + 1, 1, none⟩ (.slice aq n.a.length ac)).setCell ⟨w.heap.size + 1 + 1, 2, none⟩ (.slice tq n.t.length tc)) := KB.mono (fun b h => by omega)
    exact (Keep.of BF).trans2 hK2)
  obtain ⟨r0, r1, r2, f0, f1, f2⟩ := kr.o3
  have lr := kr.lt
  clear kr KB G2 U2 UF
  refine wpAny_ready (rs := [9]) (by kernel_rfl) (by simp) (AllReady.cons rfl (fun K hK => ?_) AllReady.nil)
  go_simp
  refine hK _ _ ?_
  clear hK K
  refine wpAny_ready (rs := [10]) (by kernel_rfl) (by simp) (AllReady.cons rfl (fun K hK => ?_) AllReady.nil)
  go_simp
  refine hK _ _ ?_
  clear hK K
  refine wpAny_done (by kernel_rfl) ?_ _
  go_wp2_with fail
  exact bodyPost_ret (v := .tuple #[.agg #[.slice vq n.v.length vc, .slice aq n.a.length ac, .slice tq n.t.length tc], .bool true]) (by simp [results, Tryd.results11, go_sem]; go_simp) rfl ⟨_, rfl, UFF.out, GF.out, KFF.out⟩

set_option maxHeartbeats 8000000 in
set_option maxRecDepth 100000 in
theorem do6_setok {w0 : World} (hg : ErrT w0) (hb0 : Below w0.heap.size w0 w) (ho : ∀ b, b < w0.heap.size → Off [va, vt] b) (h : GraphAt (Off vs) w p n va vt) (hn : GrN n) (hu : NetA (Off vs) w u n) (ha : va ∈ vs) (ht : vt ∈ vs) (hm : ∀ v ∈ vs, MutR w v) (x : ActD) (c0 : -9223372036854775808 ≤ x.w) (c1 : x.w ≤ 9223372036854775807) (hk : x.k = 0) (k : Nat) (hka : k < n.a.length) (hxa : x.a = k) (hc : wgt x.w = true) :
    Calls Tryd.prog 11 #[gp p, u, actV x] w fun e w' => ∃ u', e = .returned (.tuple #[u', .bool true]) ∧ NetA (Off vs) w' u' ⟨n.v, n.a.set k (n.a[k].1, n.a[k].2.1, x.w), n.t⟩ ∧ GraphAt (Off vs) w' p ⟨n.v, n.a.set k (n.a[k].1, n.a[k].2.1, x.w), n.t⟩ va vt ∧ Keep (Off [va, vt]) w w' := by
  have hk0 : (x.k == 0) = true := by simpa using hk
  obtain ⟨vq, aq, tq, vc, ac, tc, rfl, -⟩ := hu.net.shape
  obtain ⟨xk, xa, xi, xo, xw⟩ := x
  simp only [] at c0 c1 hk0 hxa hc ⊢
  subst hxa
  have HG := Lib.hid hg
  have HN := Lib.hid hn
  have HO := Lib.hid ho
  have HA := Lib.hid ha
  have HT := Lib.hid ht
  have HM := Lib.hid hm
  have HC0 := Lib.hid (And.intro c0 c1)
  have HC := Lib.hid hc
  have hu1 : NetA (fun b => Off vs b ∧ b < w.heap.size) w (netVal n vq aq tq vc ac tc) n := hu.both
  clear hg hn ho ha ht hm c0 c1 hk hc
  unfold actV
  go_enter Tryd.func11, Tryd.ntmps11
  go_wp2_with fail
  obtain ⟨W0, hW0⟩ := named (((w.alloc (.cells #[.slice vq n.v.length vc, .slice aq n.a.length ac, .slice tq n.t.length tc] 26)).alloc (.cells #[.int .i64 xk, .int .i64 k, .int .i64 xi, .int .i64 xo, .int .i64 xw] 49)).alloc (.cells #[.slice none 0 0, .slice none 0 0, .slice none 0 0] 26))
  rw [← hW0]
  have hbw : Below w.heap.size w W0 := by rw [hW0]; exact (below_alloc2 _ _).alloc (by simp; omega) _
  have BW := Lib.hid hbw
  have KX : Hid (Blk W0 (w.heap.size + 1) #[.int .i64 xk, .int .i64 k, .int .i64 xi, .int .i64 xo, .int .i64 xw] 49) := by rw [hW0]; exact Lib.hid ((Blk.new _ _ _ _ (by simp)).old _)
  have KR : Hid (Blk W0 (w.heap.size + 1 + 1) #[.slice none 0 0, .slice none 0 0, .slice none 0 0] 26) := by rw [hW0]; exact Lib.hid (Blk.new _ _ _ _ (by simp))
  have B0 := Lib.hid (bOn6 hb0 hbw)
  have hgb : GraphAt (fun b => Off vs b ∧ b ≠ w.heap.size + 1 + 1) w p n va vt := h.both.mono (fun b h => ⟨h.1, by have := h.2; omega⟩)
  have G0 := Lib.hid (hgb.old hbw)
  have U0 := Lib.hid (hu1.old hbw)
  have M0 : Hid (∀ v ∈ vs, MutR W0 v) := Lib.hid (fun v hv => (HM.out v hv).old hbw)
  clear hW0 hbw hb0 h hu hu1 hgb
  refine (rset_ok (Q := fun b => Off vs b ∧ b ≠ w.heap.size + 1 + 1) U0.out.net HN.out (fun w' hb b cs t hk h1 h2 h3 => ⟨off_blk (fun v hv => (M0.out v hv).old hb) hk h1 h2, fun e => by subst e; exact h3 (by have := (KR.out.keep hb); unfold Blk at this hk; rw [this] at hk; injection hk with hk; injection hk with _ hk)⟩) k hka xw HC.out).mono ?_
  rintro e w1 ⟨uv, rfl, hU, hb⟩
  obtain ⟨vq2, aq2, tq2, vc2, ac2, tc2, rfl, -⟩ := hU.net.shape
  simp only [List.length_set]
  have HU := Lib.hid hU
  have HB := Lib.hid hb
  clear hU hb
  go_wp2_with fail
  obtain ⟨W1, hW1⟩ := named ((w1.alloc (.cells #[.slice vq2 n.v.length vc2, .slice aq2 n.a.length ac2, .slice tq2 n.t.length tc2] 26)).alloc (.cells #[.slice none 0 0, .int .i64 0] 65))
  rw [← hW1]
  have hb1 : Below w1.heap.size w1 W1 := by rw [hW1]; exact below_alloc2 _ _
  have K8 : Hid (Blk W1 w1.heap.size #[.slice vq2 n.v.length vc2, .slice aq2 n.a.length ac2, .slice tq2 n.t.length tc2] 26) := by rw [hW1]; exact Lib.hid ((Blk.new _ _ _ _ rfl).old _)
  have K9 : Hid (Blk W1 (w1.heap.size + 1) #[.slice none 0 0, .int .i64 0] 65) := by rw [hW1]; exact Lib.hid (Blk.new _ _ _ _ (by simp))
  have HB1 := Lib.hid (bOn6 HB.out hb1)
  have U1 := Lib.hid (HU.out.old hb1)
  have KX1 := Lib.hid (KX.out.keep HB1.out)
  have KR1 := Lib.hid (KR.out.keep HB1.out)
  have M1 : Hid (∀ v ∈ vs, MutR W1 v) := Lib.hid (fun v hv => (M0.out v hv).old HB1.out)
  have DS0 := Lib.hid (GG.DoS.start (j := 6) (m := ⟨n.v, n.a.set k (n.a[k].1, n.a[k].2.1, xw), n.t⟩) (G0.out.old HB1.out) (bOn6 B0.out HB1.out))
  have S2 : Hid (∀ v ∈ [va, vt], v ∈ vs) := Lib.hid (by intro v hv; simp at hv; rcases hv with rfl | rfl; exact HA.out; exact HT.out)
  have M2 : Hid (∀ v ∈ [va, vt], MutR W1 v) := Lib.hid (fun v hv => M1.out v (S2.out v hv))
  clear hW1 hb1 HU HB
  refine' GG.wp_thenL _ 9 (GG.DoS 6 (fun b => Off vs b ∧ b ≠ w.heap.size + 1 + 1) va vt p n ⟨n.v, n.a.set k (n.a[k].1, n.a[k].2.1, xw), n.t⟩ w0 W1) [[], [], [], [2], [], [4], [1, 2, 3, 4, 5], [], [1, 2, 3, 4, 5, 6, 7]] (GG.Fact.lit (Rl := GG.RlT) _ :: GG.Fact.lit (Rl := GG.RlT) _ :: GG.Fact.lit (Rl := GG.RlT) _ :: GG.Fact.lit (Rl := GG.RlT) _ :: GG.Fact.lit (Rl := GG.RlT) _ :: GG.Fact.lit (Rl := GG.RlT) _ :: GG.Fact.lit (Rl := GG.RlT) _ :: GG.Fact.lit (Rl := GG.RlT) _ :: GG.Fact.lit (Rl := GG.RlT) _ :: []) (by kernel_rfl) rfl (by kernel_rfl) (()) (DS0.out) ?seqsetok
  case' seqsetok => skip
  (refine' GG.grow_lit (GG.DoS.still (by decide)) rfl ?wtsetok0 ?runsetok0 ?putsetok0 ?nextsetok0; (case wtsetok0 => rfl); (case runsetok0 => (intro w' hS; (obtain ⟨dn, s, hS⟩ := hS); (obtain ⟨a0, a1, a2, -, -, -⟩ := (hS.k.blk K8.out (off_blk M2.out K8.out (by decide) (by decide))).o3); (obtain ⟨d0, d1, -, -⟩ := (hS.k.blk K9.out (off_blk M2.out K9.out (by decide) (by decide))).o2); (obtain ⟨x0, x1, x2, x3, x4, -⟩ := Blk.o5 (hS.k.blk KX1.out (off_blk M2.out KX1.out (by decide) (by decide)))); clear hS; go_simp; first | done | exact rfl)); (case putsetok0 => (first | (simp only [Act.put, List.setIfInBounds_toArray, List.set_cons_zero, List.set_cons_succ]; first | done | exact rfl) | rfl)); (case' nextsetok0 => skip))
  (refine' GG.grow_lit (GG.DoS.still (by decide)) rfl ?wtsetok1 ?runsetok1 ?putsetok1 ?nextsetok1; (case wtsetok1 => rfl); (case runsetok1 => (intro w' hS; (obtain ⟨dn, s, hS⟩ := hS); (obtain ⟨a0, a1, a2, -, -, -⟩ := (hS.k.blk K8.out (off_blk M2.out K8.out (by decide) (by decide))).o3); (obtain ⟨d0, d1, -, -⟩ := (hS.k.blk K9.out (off_blk M2.out K9.out (by decide) (by decide))).o2); (obtain ⟨x0, x1, x2, x3, x4, -⟩ := Blk.o5 (hS.k.blk KX1.out (off_blk M2.out KX1.out (by decide) (by decide)))); clear hS; go_simp; first | done | exact rfl)); (case putsetok1 => (first | (simp only [Act.put, List.setIfInBounds_toArray, List.set_cons_zero, List.set_cons_succ]; first | done | exact rfl) | rfl)); (case' nextsetok1 => skip))
  (refine' GG.grow_lit (GG.DoS.still (by decide)) rfl ?wtsetok2 ?runsetok2 ?putsetok2 ?nextsetok2; (case wtsetok2 => rfl); (case runsetok2 => (intro w' hS; (obtain ⟨dn, s, hS⟩ := hS); (obtain ⟨a0, a1, a2, -, -, -⟩ := (hS.k.blk K8.out (off_blk M2.out K8.out (by decide) (by decide))).o3); (obtain ⟨d0, d1, -, -⟩ := (hS.k.blk K9.out (off_blk M2.out K9.out (by decide) (by decide))).o2); (obtain ⟨x0, x1, x2, x3, x4, -⟩ := Blk.o5 (hS.k.blk KX1.out (off_blk M2.out KX1.out (by decide) (by decide)))); clear hS; go_simp; first | done | exact rfl)); (case putsetok2 => (first | (simp only [Act.put, List.setIfInBounds_toArray, List.set_cons_zero, List.set_cons_succ]; first | done | exact rfl) | rfl)); (case' nextsetok2 => skip))
  (refine' GG.grow_lit (GG.DoS.still (by decide)) rfl ?wtsetok3 ?runsetok3 ?putsetok3 ?nextsetok3; (case wtsetok3 => rfl); (case runsetok3 => (intro w' hS; (obtain ⟨dn, s, hS⟩ := hS); (obtain ⟨a0, a1, a2, -, -, -⟩ := (hS.k.blk K8.out (off_blk M2.out K8.out (by decide) (by decide))).o3); (obtain ⟨d0, d1, -, -⟩ := (hS.k.blk K9.out (off_blk M2.out K9.out (by decide) (by decide))).o2); (obtain ⟨x0, x1, x2, x3, x4, -⟩ := Blk.o5 (hS.k.blk KX1.out (off_blk M2.out KX1.out (by decide) (by decide)))); clear hS; go_simp; first | done | exact rfl)); (case putsetok3 => (first | (simp only [Act.put, List.setIfInBounds_toArray, List.set_cons_zero, List.set_cons_succ]; first | done | exact rfl) | rfl)); (case' nextsetok3 => skip))
  (refine' GG.grow_lit (GG.DoS.still (by decide)) rfl ?wtsetok4 ?runsetok4 ?putsetok4 ?nextsetok4; (case wtsetok4 => rfl); (case runsetok4 => (intro w' hS; (obtain ⟨dn, s, hS⟩ := hS); (obtain ⟨a0, a1, a2, -, -, -⟩ := (hS.k.blk K8.out (off_blk M2.out K8.out (by decide) (by decide))).o3); (obtain ⟨d0, d1, -, -⟩ := (hS.k.blk K9.out (off_blk M2.out K9.out (by decide) (by decide))).o2); (obtain ⟨x0, x1, x2, x3, x4, -⟩ := Blk.o5 (hS.k.blk KX1.out (off_blk M2.out KX1.out (by decide) (by decide)))); clear hS; go_simp; first | done | exact rfl)); (case putsetok4 => (first | (simp only [Act.put, List.setIfInBounds_toArray, List.set_cons_zero, List.set_cons_succ]; first | done | exact rfl) | rfl)); (case' nextsetok4 => skip))
  (refine' GG.grow_lit (GG.DoS.still (by decide)) rfl ?wtsetok5 ?runsetok5 ?putsetok5 ?nextsetok5; (case wtsetok5 => rfl); (case runsetok5 => (intro w' hS; (obtain ⟨dn, s, hS⟩ := hS); (obtain ⟨a0, a1, a2, -, -, -⟩ := (hS.k.blk K8.out (off_blk M2.out K8.out (by decide) (by decide))).o3); (obtain ⟨d0, d1, -, -⟩ := (hS.k.blk K9.out (off_blk M2.out K9.out (by decide) (by decide))).o2); (obtain ⟨x0, x1, x2, x3, x4, -⟩ := Blk.o5 (hS.k.blk KX1.out (off_blk M2.out KX1.out (by decide) (by decide)))); clear hS; go_simp; first | done | exact rfl)); (case putsetok5 => (first | (simp only [Act.put, List.setIfInBounds_toArray, List.set_cons_zero, List.set_cons_succ]; first | done | exact rfl) | rfl)); (case' nextsetok5 => skip))
  (refine' GG.grow_lit_call (u := .nilIface) rfl Tryd.func15 (by kernel_rfl) rfl rfl ?wtsetok6 ?runsetok6 ?putsetok6 ?nextsetok6; (case wtsetok6 => rfl); (case runsetok6 => (intro dn s w' hS hd H; (obtain ⟨uv, b1, d1, b2, d2, hg⟩ := hS.g0 hd); exact (gset_ok hg (fun b hb => Off.sub (fun v hv => by simp at hv; subst hv; exact HA.out) b hb.1) k hka xw HC.out).mono (fun e w2 ⟨h1, h2, h3⟩ => ⟨(), h1, hS.put ⟨uv, b1, d1, b2, d2, h2⟩ (h3.mono (Off.sub (by simp))) HO.out, trivial, h3.size⟩))); (case putsetok6 => (first | (simp only [Act.put, List.setIfInBounds_toArray, List.set_cons_zero, List.set_cons_succ]; first | done | exact rfl) | rfl)); (case' nextsetok6 => skip))
  (refine' GG.grow_lit (GG.DoS.still (by decide)) rfl ?wtsetok7 ?runsetok7 ?putsetok7 ?nextsetok7; (case wtsetok7 => rfl); (case runsetok7 => (intro w' hS; (obtain ⟨dn, s, hS⟩ := hS); (obtain ⟨a0, a1, a2, -, -, -⟩ := (hS.k.blk K8.out (off_blk M2.out K8.out (by decide) (by decide))).o3); (obtain ⟨d0, d1, -, -⟩ := (hS.k.blk K9.out (off_blk M2.out K9.out (by decide) (by decide))).o2); (obtain ⟨x0, x1, x2, x3, x4, -⟩ := Blk.o5 (hS.k.blk KX1.out (off_blk M2.out KX1.out (by decide) (by decide)))); clear hS; go_simp; first | done | exact rfl)); (case putsetok7 => (first | (simp only [Act.put, List.setIfInBounds_toArray, List.set_cons_zero, List.set_cons_succ]; first | done | exact rfl) | rfl)); (case' nextsetok7 => skip))
  (refine' GG.grow_lit_call (u := .bool true) rfl Tryd.func24 (by kernel_rfl) rfl rfl ?wtsetok8 ?runsetok8 ?putsetok8 ?nextsetok8; (case wtsetok8 => rfl); (case runsetok8 => (intro dn s w' hS hd H; exact (tells_post _ _ [] 0 w' (HG.out.below HG.out.lt hS.b) (Or.inl ⟨rfl, rfl⟩) ⟨_, rfl, Or.inl ⟨rfl, rfl⟩⟩ (Or.inl ⟨rfl, rfl⟩)).mono (fun e w2 h => ⟨(), h.1, hS.step (by decide) h.2, trivial, h.2.size⟩))); (case putsetok8 => (first | (simp only [Act.put, List.setIfInBounds_toArray, List.set_cons_zero, List.set_cons_succ]; first | done | exact rfl) | rfl)); (case' nextsetok8 => skip))
  intro dn s w2 hS hdn _
  have kr := hS.k.blk KR1.out (off_blk M2.out KR1.out (by decide) (by decide))
  have KF : Keep (Off [va, vt]) w w2 := ((Keep.of BW.out).trans (Keep.of HB1.out)).trans hS.k
  have G2 := hS.g1 (hdn 6 (by decide))
  have U2 := (U1.out.mono (Q := fun b => (Off vs b ∧ b ≠ w.heap.size + 1 + 1)) (fun b h => h)).keep (hS.k.mono (fun b h => Off.sub S2.out b h.1))
  clear hS
  have KB : Keep (fun b => b ≠ w.heap.size + 1 + 1) w2 (((w2.setCell ⟨w.heap.size + 1 + 1, 0, none⟩ (.slice vq2 n.v.length vc2)).setCell ⟨w.heap.size + 1 + 1, 1, none⟩ (.slice aq2 n.a.length ac2)).setCell ⟨w.heap.size + 1 + 1, 2, none⟩ (.slice tq2 n.t.length tc2)) := (((Keep.refl _ _).setCell (fun h => h rfl) _ _).setCell (fun h => h rfl) _ _).setCell (fun h => h rfl) _ _
  have UF := Lib.hid (U2)
  have UFF : Hid (NetA (Off vs) (((w2.setCell ⟨w.heap.size + 1 + 1, 0, none⟩ (.slice vq2 n.v.length vc2)).setCell ⟨w.heap.size + 1 + 1, 1, none⟩ (.slice aq2 n.a.length ac2)).setCell ⟨w.heap.size + 1 + 1, 2, none⟩ (.slice tq2 n.t.length tc2)) (.agg #[.slice vq2 n.v.length vc2, .slice aq2 n.a.length ac2, .slice tq2 n.t.length tc2]) ⟨n.v, n.a.set k (n.a[k].1, n.a[k].2.1, xw), n.t⟩) := Lib.hid (by have h := (UF.out.keep (KB.mono (fun b h => h.2))).mono (Q := Off vs) (fun b h => h.1); (try simp only [List.length_set] at h); exact h)
  have GF : Hid (GraphAt (Off vs) (((w2.setCell ⟨w.heap.size + 1 + 1, 0, none⟩ (.slice vq2 n.v.length vc2)).setCell ⟨w.heap.size + 1 + 1, 1, none⟩ (.slice aq2 n.a.length ac2)).setCell ⟨w.heap.size + 1 + 1, 2, none⟩ (.slice tq2 n.t.length tc2)) p ⟨n.v, n.a.set k (n.a[k].1, n.a[k].2.1, xw), n.t⟩ va vt) := Lib.hid (by
    exact (G2.keep KB (fun b h => h.2) (fun b e => by have := (HM.out va HA.out).lt e; omega) (fun b e => by have := (HM.out vt HT.out).lt e; omega)).mono (fun b h => h.1))
  have KFF : Hid (Keep (Off [va, vt]) w (((w2.setCell ⟨w.heap.size + 1 + 1, 0, none⟩ (.slice vq2 n.v.length vc2)).setCell ⟨w.heap.size + 1 + 1, 1, none⟩ (.slice aq2 n.a.length ac2)).setCell ⟨w.heap.size + 1 + 1, 2, none⟩ (.slice tq2 n.t.length tc2))) := Lib.hid (by
    have hK2 : Keep (fun b => b < w.heap.size) w2 (((w2.setCell ⟨w.heap.size + 1 + 1, 0, none⟩ (.slice vq2 n.v.length vc2)).setCell ⟨w.heap.size + 1 + 1, 1, none⟩ (.slice aq2 n.a.length ac2)).setCell ⟨w.heap.size + 1 + 1, 2, none⟩ (.slice tq2 n.t.length tc2)) := KB.mono (fun b h => by omega)
    exact KF.trans2 hK2)
  obtain ⟨r0, r1, r2, f0, f1, f2⟩ := kr.o3
  have lr := kr.lt
  clear kr KB G2 U2 UF
  refine wpAny_ready (rs := [9]) (by kernel_rfl) (by simp) (AllReady.cons rfl (fun K hK => ?_) AllReady.nil)
  go_simp
  refine hK _ _ ?_
  clear hK K
  refine wpAny_ready (rs := [10]) (by kernel_rfl) (by simp) (AllReady.cons rfl (fun K hK => ?_) AllReady.nil)
  go_simp
  refine hK _ _ ?_
  clear hK K
  refine wpAny_done (by kernel_rfl) ?_ _
  go_wp2_with fail
  exact bodyPost_ret (v := .tuple #[.agg #[.slice vq2 n.v.length vc2, .slice aq2 n.a.length ac2, .slice tq2 n.t.length tc2], .bool true]) (by simp [results, Tryd.results11, go_sem]; go_simp) rfl ⟨_, rfl, UFF.out, GF.out, KFF.out⟩

set_option maxHeartbeats 8000000 in
set_option maxRecDepth 100000 in
theorem do6_benderr {w0 : World} (hg : ErrT w0) (hb0 : Below w0.heap.size w0 w) (ho : ∀ b, b < w0.heap.size → Off [va, vt] b) (h : GraphAt (Off vs) w p n va vt) (hn : GrN n) (hu : NetA (Off vs) w u n) (ha : va ∈ vs) (ht : vt ∈ vs) (hm : ∀ v ∈ vs, MutR w v) (x : ActD) (c0 : -9223372036854775808 ≤ x.w) (c1 : x.w ≤ 9223372036854775807) (hk : ¬ x.k = 0) (F : Flt) (hF : (bendN n x.a x.i x.o x.w).2 = F) (hne : ¬ F.2 = 0) :
    Calls Tryd.prog 11 #[gp p, u, actV x] w fun e w' => ∃ u', e = .returned (.tuple #[u', .bool true]) ∧ NetA (Off vs) w' u' n ∧ GraphAt (Off vs) w' p n va vt ∧ Keep (Off [va, vt]) w w' := by
  have hk0 : (x.k == 0) = false := by simpa using hk
  obtain ⟨vq, aq, tq, vc, ac, tc, rfl, -⟩ := hu.net.shape
  obtain ⟨xk, xa, xi, xo, xw⟩ := x
  simp only [] at c0 c1 hk0 hF ⊢
  have HG := Lib.hid hg
  have HN := Lib.hid hn
  have HO := Lib.hid ho
  have HA := Lib.hid ha
  have HT := Lib.hid ht
  have HM := Lib.hid hm
  have HC0 := Lib.hid (And.intro c0 c1)
  have HF := Lib.hid hF
  have HNE := Lib.hid hne
  have HFL : Hid (1 ≤ F.1.length ∧ F.1.length ≤ 2 ∧ ¬ F.2 = 0) := Lib.hid (by rw [← hF]; rcases bendN_flt n xa xi xo xw with h | h; exact absurd (by rw [← hF]; exact h.2) hne; exact h)
  have hu1 : NetA (fun b => Off vs b ∧ b < w.heap.size) w (netVal n vq aq tq vc ac tc) n := hu.both
  clear hg hn ho ha ht hm c0 c1 hk hF hne
  unfold actV
  go_enter Tryd.func11, Tryd.ntmps11
  go_wp2_with fail
  obtain ⟨W0, hW0⟩ := named (((w.alloc (.cells #[.slice vq n.v.length vc, .slice aq n.a.length ac, .slice tq n.t.length tc] 26)).alloc (.cells #[.int .i64 xk, .int .i64 xa, .int .i64 xi, .int .i64 xo, .int .i64 xw] 49)).alloc (.cells #[.slice none 0 0, .slice none 0 0, .slice none 0 0] 26))
  rw [← hW0]
  have hbw : Below w.heap.size w W0 := by rw [hW0]; exact (below_alloc2 _ _).alloc (by simp; omega) _
  have BW := Lib.hid hbw
  have KX : Hid (Blk W0 (w.heap.size + 1) #[.int .i64 xk, .int .i64 xa, .int .i64 xi, .int .i64 xo, .int .i64 xw] 49) := by rw [hW0]; exact Lib.hid ((Blk.new _ _ _ _ (by simp)).old _)
  have KR : Hid (Blk W0 (w.heap.size + 1 + 1) #[.slice none 0 0, .slice none 0 0, .slice none 0 0] 26) := by rw [hW0]; exact Lib.hid (Blk.new _ _ _ _ (by simp))
  have B0 := Lib.hid (bOn6 hb0 hbw)
  have hgb : GraphAt (fun b => Off vs b ∧ b ≠ w.heap.size + 1 + 1) w p n va vt := h.both.mono (fun b h => ⟨h.1, by have := h.2; omega⟩)
  have G0 := Lib.hid (hgb.old hbw)
  have U0 := Lib.hid (hu1.old hbw)
  have M0 : Hid (∀ v ∈ vs, MutR W0 v) := Lib.hid (fun v hv => (HM.out v hv).old hbw)
  clear hW0 hbw hb0 h hu hu1 hgb
  refine (rbend_errF U0.out.net HN.out xa xi xo xw HC0.out.1 HC0.out.2 HF.out HNE.out).mono ?_
  rintro e w1 ⟨wv, rfl, hW, hb⟩
  obtain ⟨qw, mw, cw, rfl⟩ := hW.shape
  have HW := Lib.hid hW
  have HB := Lib.hid hb
  clear hW hb
  go_wp2_with fail
  obtain ⟨W1, hW1⟩ := named ((w1.alloc (.cells #[.slice vq n.v.length vc, .slice aq n.a.length ac, .slice tq n.t.length tc] 26)).alloc (.cells #[.slice qw mw cw, .int .i64 F.2] 65))
  rw [← hW1]
  have hb1 : Below w1.heap.size w1 W1 := by rw [hW1]; exact below_alloc2 _ _
  have K8 : Hid (Blk W1 w1.heap.size #[.slice vq n.v.length vc, .slice aq n.a.length ac, .slice tq n.t.length tc] 26) := by rw [hW1]; exact Lib.hid ((Blk.new _ _ _ _ rfl).old _)
  have K9 : Hid (Blk W1 (w1.heap.size + 1) #[.slice qw mw cw, .int .i64 F.2] 65) := by rw [hW1]; exact Lib.hid (Blk.new _ _ _ _ (by simp))
  have HB1 := Lib.hid (bOn6 HB.out hb1)
  have HW1 := Lib.hid (HW.out.below hb1)
  clear hW1 hb1 HW HB
  refine' GG.wp_thenL _ 13 (GG.SB W1) [[], [], [], [2], [], [4], [], [6], [], [8], [1, 2, 3, 4, 5, 6, 7, 8, 9], [], [1, 2, 3, 4, 5, 6, 7, 8, 9, 10, 11]] (GG.Fact.lit (Rl := GG.RlB) _ :: GG.Fact.lit (Rl := GG.RlB) _ :: GG.Fact.lit (Rl := GG.RlB) _ :: GG.Fact.lit (Rl := GG.RlB) _ :: GG.Fact.lit (Rl := GG.RlB) _ :: GG.Fact.lit (Rl := GG.RlB) _ :: GG.Fact.lit (Rl := GG.RlB) _ :: GG.Fact.lit (Rl := GG.RlB) _ :: GG.Fact.lit (Rl := GG.RlB) _ :: GG.Fact.lit (Rl := GG.RlB) _ :: GG.Fact.prop (Rl := GG.RlB) _ _ :: GG.Fact.lit (Rl := GG.RlB) _ :: GG.Fact.lit (Rl := GG.RlB) _ :: []) (by kernel_rfl) rfl (by kernel_rfl) (()) ((Below.refl _ _).drew) ?seqbenderr
  case' seqbenderr => skip
  (refine' GG.grow_lit (GG.SB.still W1 _) rfl ?wtbenderr0 ?runbenderr0 ?putbenderr0 ?nextbenderr0; (case wtbenderr0 => rfl); (case runbenderr0 => (intro w' hS; (obtain ⟨dn, s, hS⟩ := hS); (have hS : Below W1.heap.size W1 w' := hS); (obtain ⟨a0, a1, a2, -, -, -⟩ := (K8.out.keep hS).o3); (obtain ⟨d0, d1, -, -⟩ := (K9.out.keep hS).o2); (obtain ⟨x0, x1, x2, x3, x4, -⟩ := Blk.o5 (KX.out.keep (HB1.out.trans (hS.mono HB1.out.size)))); clear hS; go_simp; first | done | exact rfl)); (case putbenderr0 => (first | (simp only [Act.put, List.setIfInBounds_toArray, List.set_cons_zero, List.set_cons_succ]; first | done | exact rfl) | rfl)); (case' nextbenderr0 => skip))
  (refine' GG.grow_lit (GG.SB.still W1 _) rfl ?wtbenderr1 ?runbenderr1 ?putbenderr1 ?nextbenderr1; (case wtbenderr1 => rfl); (case runbenderr1 => (intro w' hS; (obtain ⟨dn, s, hS⟩ := hS); (have hS : Below W1.heap.size W1 w' := hS); (obtain ⟨a0, a1, a2, -, -, -⟩ := (K8.out.keep hS).o3); (obtain ⟨d0, d1, -, -⟩ := (K9.out.keep hS).o2); (obtain ⟨x0, x1, x2, x3, x4, -⟩ := Blk.o5 (KX.out.keep (HB1.out.trans (hS.mono HB1.out.size)))); clear hS; go_simp; first | done | exact rfl)); (case putbenderr1 => (first | (simp only [Act.put, List.setIfInBounds_toArray, List.set_cons_zero, List.set_cons_succ]; first | done | exact rfl) | rfl)); (case' nextbenderr1 => skip))
  (refine' GG.grow_lit (GG.SB.still W1 _) rfl ?wtbenderr2 ?runbenderr2 ?putbenderr2 ?nextbenderr2; (case wtbenderr2 => rfl); (case runbenderr2 => (intro w' hS; (obtain ⟨dn, s, hS⟩ := hS); (have hS : Below W1.heap.size W1 w' := hS); (obtain ⟨a0, a1, a2, -, -, -⟩ := (K8.out.keep hS).o3); (obtain ⟨d0, d1, -, -⟩ := (K9.out.keep hS).o2); (obtain ⟨x0, x1, x2, x3, x4, -⟩ := Blk.o5 (KX.out.keep (HB1.out.trans (hS.mono HB1.out.size)))); clear hS; go_simp; first | done | exact rfl)); (case putbenderr2 => (first | (simp only [Act.put, List.setIfInBounds_toArray, List.set_cons_zero, List.set_cons_succ]; first | done | exact rfl) | rfl)); (case' nextbenderr2 => skip))
  (refine' GG.grow_lit (GG.SB.still W1 _) rfl ?wtbenderr3 ?runbenderr3 ?putbenderr3 ?nextbenderr3; (case wtbenderr3 => rfl); (case runbenderr3 => (intro w' hS; (obtain ⟨dn, s, hS⟩ := hS); (have hS : Below W1.heap.size W1 w' := hS); (obtain ⟨a0, a1, a2, -, -, -⟩ := (K8.out.keep hS).o3); (obtain ⟨d0, d1, -, -⟩ := (K9.out.keep hS).o2); (obtain ⟨x0, x1, x2, x3, x4, -⟩ := Blk.o5 (KX.out.keep (HB1.out.trans (hS.mono HB1.out.size)))); clear hS; go_simp; first | done | exact rfl)); (case putbenderr3 => (first | (simp only [Act.put, List.setIfInBounds_toArray, List.set_cons_zero, List.set_cons_succ]; first | done | exact rfl) | rfl)); (case' nextbenderr3 => skip))
  (refine' GG.grow_lit (GG.SB.still W1 _) rfl ?wtbenderr4 ?runbenderr4 ?putbenderr4 ?nextbenderr4; (case wtbenderr4 => rfl); (case runbenderr4 => (intro w' hS; (obtain ⟨dn, s, hS⟩ := hS); (have hS : Below W1.heap.size W1 w' := hS); (obtain ⟨a0, a1, a2, -, -, -⟩ := (K8.out.keep hS).o3); (obtain ⟨d0, d1, -, -⟩ := (K9.out.keep hS).o2); (obtain ⟨x0, x1, x2, x3, x4, -⟩ := Blk.o5 (KX.out.keep (HB1.out.trans (hS.mono HB1.out.size)))); clear hS; go_simp; first | done | exact rfl)); (case putbenderr4 => (first | (simp only [Act.put, List.setIfInBounds_toArray, List.set_cons_zero, List.set_cons_succ]; first | done | exact rfl) | rfl)); (case' nextbenderr4 => skip))
  (refine' GG.grow_lit (GG.SB.still W1 _) rfl ?wtbenderr5 ?runbenderr5 ?putbenderr5 ?nextbenderr5; (case wtbenderr5 => rfl); (case runbenderr5 => (intro w' hS; (obtain ⟨dn, s, hS⟩ := hS); (have hS : Below W1.heap.size W1 w' := hS); (obtain ⟨a0, a1, a2, -, -, -⟩ := (K8.out.keep hS).o3); (obtain ⟨d0, d1, -, -⟩ := (K9.out.keep hS).o2); (obtain ⟨x0, x1, x2, x3, x4, -⟩ := Blk.o5 (KX.out.keep (HB1.out.trans (hS.mono HB1.out.size)))); clear hS; go_simp; first | done | exact rfl)); (case putbenderr5 => (first | (simp only [Act.put, List.setIfInBounds_toArray, List.set_cons_zero, List.set_cons_succ]; first | done | exact rfl) | rfl)); (case' nextbenderr5 => skip))
  (refine' GG.grow_lit (GG.SB.still W1 _) rfl ?wtbenderr6 ?runbenderr6 ?putbenderr6 ?nextbenderr6; (case wtbenderr6 => rfl); (case runbenderr6 => (intro w' hS; (obtain ⟨dn, s, hS⟩ := hS); (have hS : Below W1.heap.size W1 w' := hS); (obtain ⟨a0, a1, a2, -, -, -⟩ := (K8.out.keep hS).o3); (obtain ⟨d0, d1, -, -⟩ := (K9.out.keep hS).o2); (obtain ⟨x0, x1, x2, x3, x4, -⟩ := Blk.o5 (KX.out.keep (HB1.out.trans (hS.mono HB1.out.size)))); clear hS; go_simp; first | done | exact rfl)); (case putbenderr6 => (first | (simp only [Act.put, List.setIfInBounds_toArray, List.set_cons_zero, List.set_cons_succ]; first | done | exact rfl) | rfl)); (case' nextbenderr6 => skip))
  (refine' GG.grow_lit (GG.SB.still W1 _) rfl ?wtbenderr7 ?runbenderr7 ?putbenderr7 ?nextbenderr7; (case wtbenderr7 => rfl); (case runbenderr7 => (intro w' hS; (obtain ⟨dn, s, hS⟩ := hS); (have hS : Below W1.heap.size W1 w' := hS); (obtain ⟨a0, a1, a2, -, -, -⟩ := (K8.out.keep hS).o3); (obtain ⟨d0, d1, -, -⟩ := (K9.out.keep hS).o2); (obtain ⟨x0, x1, x2, x3, x4, -⟩ := Blk.o5 (KX.out.keep (HB1.out.trans (hS.mono HB1.out.size)))); clear hS; go_simp; first | done | exact rfl)); (case putbenderr7 => (first | (simp only [Act.put, List.setIfInBounds_toArray, List.set_cons_zero, List.set_cons_succ]; first | done | exact rfl) | rfl)); (case' nextbenderr7 => skip))
  (refine' GG.grow_lit (GG.SB.still W1 _) rfl ?wtbenderr8 ?runbenderr8 ?putbenderr8 ?nextbenderr8; (case wtbenderr8 => rfl); (case runbenderr8 => (intro w' hS; (obtain ⟨dn, s, hS⟩ := hS); (have hS : Below W1.heap.size W1 w' := hS); (obtain ⟨a0, a1, a2, -, -, -⟩ := (K8.out.keep hS).o3); (obtain ⟨d0, d1, -, -⟩ := (K9.out.keep hS).o2); (obtain ⟨x0, x1, x2, x3, x4, -⟩ := Blk.o5 (KX.out.keep (HB1.out.trans (hS.mono HB1.out.size)))); clear hS; go_simp; first | done | exact rfl)); (case putbenderr8 => (first | (simp only [Act.put, List.setIfInBounds_toArray, List.set_cons_zero, List.set_cons_succ]; first | done | exact rfl) | rfl)); (case' nextbenderr8 => skip))
  (refine' GG.grow_lit (GG.SB.still W1 _) rfl ?wtbenderr9 ?runbenderr9 ?putbenderr9 ?nextbenderr9; (case wtbenderr9 => rfl); (case runbenderr9 => (intro w' hS; (obtain ⟨dn, s, hS⟩ := hS); (have hS : Below W1.heap.size W1 w' := hS); (obtain ⟨a0, a1, a2, -, -, -⟩ := (K8.out.keep hS).o3); (obtain ⟨d0, d1, -, -⟩ := (K9.out.keep hS).o2); (obtain ⟨x0, x1, x2, x3, x4, -⟩ := Blk.o5 (KX.out.keep (HB1.out.trans (hS.mono HB1.out.size)))); clear hS; go_simp; first | done | exact rfl)); (case putbenderr9 => (first | (simp only [Act.put, List.setIfInBounds_toArray, List.set_cons_zero, List.set_cons_succ]; first | done | exact rfl) | rfl)); (case' nextbenderr9 => skip))
  (refine' GG.grow_any_call (p := fun v _ w => FaultV w v F.1 F.2) (hp := fun v s w s' w' h hb => h.below hb) rfl Tryd.func16 (by kernel_rfl) rfl rfl ?wtbenderr10 ?runbenderr10 ?putbenderr10 ?nextbenderr10; (case wtbenderr10 => rfl); (case runbenderr10 => (intro dn s w' hS hd H; (have hS : Below W1.heap.size W1 w' := hS); exact (vBendE (G0.out.old (HB1.out.trans (hS.mono HB1.out.size))) HN.out xa xi xo xw HC0.out.1 HC0.out.2 HF.out HNE.out).mono (fun e w2 ⟨v, h1, h2, h3⟩ => ⟨v, (), h1, h2, hS.trans (h3.mono hS.size), h3, h3.size⟩))); (case putbenderr10 => (intro v; (simp only [Act.put, List.setIfInBounds_toArray, List.set_cons_zero, List.set_cons_succ]; first | done | exact rfl))); (case' nextbenderr10 => intro v10))
  (refine' GG.grow_lit (GG.SB.still W1 _) rfl ?wtbenderr11 ?runbenderr11 ?putbenderr11 ?nextbenderr11; (case wtbenderr11 => rfl); (case runbenderr11 => (intro w' hS; (obtain ⟨dn, s, hS⟩ := hS); (have hS : Below W1.heap.size W1 w' := hS); (obtain ⟨a0, a1, a2, -, -, -⟩ := (K8.out.keep hS).o3); (obtain ⟨d0, d1, -, -⟩ := (K9.out.keep hS).o2); (obtain ⟨x0, x1, x2, x3, x4, -⟩ := Blk.o5 (KX.out.keep (HB1.out.trans (hS.mono HB1.out.size)))); clear hS; go_simp; first | done | exact rfl)); (case putbenderr11 => (first | (simp only [Act.put, List.setIfInBounds_toArray, List.set_cons_zero, List.set_cons_succ]; first | done | exact rfl) | rfl)); (case' nextbenderr11 => skip))
  (refine' GG.grow_lit_call (u := .bool true) rfl Tryd.func24 (by kernel_rfl) rfl rfl ?wtbenderr12 ?runbenderr12 ?putbenderr12 ?nextbenderr12; (case wtbenderr12 => rfl); (case runbenderr12 => (intro dn s w' hS hd H; (have hS : Below W1.heap.size W1 w' := hS); exact (tells_post _ _ F.1 F.2 w' (HG.out.below HG.out.lt (bOn6 (bOn6 B0.out HB1.out) hS)) (H 10 (by decide)) (HW1.out.below hS) (Or.inr HFL.out)).mono (fun e w2 h => ⟨(), h.1, hS.trans (h.2.mono hS.size), h.2, h.2.size⟩))); (case putbenderr12 => (first | (simp only [Act.put, List.setIfInBounds_toArray, List.set_cons_zero, List.set_cons_succ]; first | done | exact rfl) | rfl)); (case' nextbenderr12 => skip))
  intro dn s w2 hS _ _
  have hS : Below W1.heap.size W1 w2 := hS
  have B2 := HB1.out.trans (hS.mono HB1.out.size)
  have kr := KR.out.keep B2
  have BF := bOn6 BW.out B2
  have G2 := G0.out.old B2
  have U2 := U0.out.old B2
  clear hS
  have KB : Keep (fun b => b ≠ w.heap.size + 1 + 1) w2 (((w2.setCell ⟨w.heap.size + 1 + 1, 0, none⟩ (.slice vq n.v.length vc)).setCell ⟨w.heap.size + 1 + 1, 1, none⟩ (.slice aq n.a.length ac)).setCell ⟨w.heap.size + 1 + 1, 2, none⟩ (.slice tq n.t.length tc)) := (((Keep.refl _ _).setCell (fun h => h rfl) _ _).setCell (fun h => h rfl) _ _).setCell (fun h => h rfl) _ _
  have UF := Lib.hid (U2.mono (Q := fun b => Off vs b ∧ b ≠ w.heap.size + 1 + 1) (fun b h => ⟨h.1, by have := h.2; omega⟩))
  have UFF : Hid (NetA (Off vs) (((w2.setCell ⟨w.heap.size + 1 + 1, 0, none⟩ (.slice vq n.v.length vc)).setCell ⟨w.heap.size + 1 + 1, 1, none⟩ (.slice aq n.a.length ac)).setCell ⟨w.heap.size + 1 + 1, 2, none⟩ (.slice tq n.t.length tc)) (.agg #[.slice vq n.v.length vc, .slice aq n.a.length ac, .slice tq n.t.length tc]) n) := Lib.hid (by have h := (UF.out.keep (KB.mono (fun b h => h.2))).mono (Q := Off vs) (fun b h => h.1); (try simp only [List.length_set] at h); exact h)
  have GF : Hid (GraphAt (Off vs) (((w2.setCell ⟨w.heap.size + 1 + 1, 0, none⟩ (.slice vq n.v.length vc)).setCell ⟨w.heap.size + 1 + 1, 1, none⟩ (.slice aq n.a.length ac)).setCell ⟨w.heap.size + 1 + 1, 2, none⟩ (.slice tq n.t.length tc)) p n va vt) := Lib.hid (by
    exact (G2.keep KB (fun b h => h.2) (fun b e => by have := (HM.out va HA.out).lt e; omega) (fun b e => by have := (HM.out vt HT.out).lt e; omega)).mono (fun b h => h.1))
  have KFF : Hid (Keep (Off [va, vt]) w (((w2.setCell ⟨w.heap.size + 1 + 1, 0, none⟩ (.slice vq n.v.length vc)).setCell ⟨w.heap.size + 1 + 1, 1, none⟩ (.slice aq n.a.length ac)).setCell ⟨w.heap.size + 1 + 1, 2, none⟩ (.slice tq n.t.length tc))) := Lib.hid (by
    have hK2 : Keep (fun b => b < w.heap.size) w2 (((w2.setCell ⟨w.heap.size + 1 + 1, 0, none⟩ (.slice vq n.v.length vc)).setCell ⟨w.heap.size + 1 + 1, 1, none⟩ (.slice aq n.a.length ac)).setCell ⟨w.heap.size + 1 + 1, 2, none⟩ (.slice tq n.t.length tc)) := KB.mono (fun b h => by omega)
    exact (Keep.of BF).trans2 hK2)
  obtain ⟨r0, r1, r2, f0, f1, f2⟩ := kr.o3
  have lr := kr.lt
  clear kr KB G2 U2 UF
  refine wpAny_ready (rs := [13]) (by kernel_rfl) (by simp) (AllReady.cons rfl (fun K hK => ?_) AllReady.nil)
  go_simp
  refine hK _ _ ?_
  clear hK K
  refine wpAny_ready (rs := [14]) (by kernel_rfl) (by simp) (AllReady.cons rfl (fun K hK => ?_) AllReady.nil)
  go_simp
  refine hK _ _ ?_
  clear hK K
  refine wpAny_done (by kernel_rfl) ?_ _
  go_wp2_with fail
  exact bodyPost_ret (v := .tuple #[.agg #[.slice vq n.v.length vc, .slice aq n.a.length ac, .slice tq n.t.length tc], .bool true]) (by simp [results, Tryd.results11, go_sem]; go_simp) rfl ⟨_, rfl, UFF.out, GF.out, KFF.out⟩

set_option maxHeartbeats 8000000 in
set_option maxRecDepth 100000 in
theorem do6_bendok {w0 : World} (hg : ErrT w0) (hb0 : Below w0.heap.size w0 w) (ho : ∀ b, b < w0.heap.size → Off [va, vt] b) (h : GraphAt (Off vs) w p n va vt) (hn : GrN n) (hu : NetA (Off vs) w u n) (ha : va ∈ vs) (ht : vt ∈ vs) (hm : ∀ v ∈ vs, MutR w v) (x : ActD) (c0 : -9223372036854775808 ≤ x.w) (c1 : x.w ≤ 9223372036854775807) (hk : ¬ x.k = 0) (k : Nat) (hka : k < n.t.length) (hxa : x.a = k) (hc : wgt x.w = true) (hx : 0 ≤ x.i ∧ x.i < n.t[k].1 ∧ 0 ≤ x.o ∧ x.o < n.t[k].2.1) :
    Calls Tryd.prog 11 #[gp p, u, actV x] w fun e w' => ∃ u', e = .returned (.tuple #[u', .bool true]) ∧ NetA (Off vs) w' u' ⟨n.v, n.a, n.t.set k (n.t[k].1, n.t[k].2.1, n.t[k].2.2.set (x.i * n.t[k].2.1 + x.o).toNat x.w)⟩ ∧ GraphAt (Off vs) w' p ⟨n.v, n.a, n.t.set k (n.t[k].1, n.t[k].2.1, n.t[k].2.2.set (x.i * n.t[k].2.1 + x.o).toNat x.w)⟩ va vt ∧ Keep (Off [va, vt]) w w' := by
  have hk0 : (x.k == 0) = false := by simpa using hk
  obtain ⟨vq, aq, tq, vc, ac, tc, rfl, -⟩ := hu.net.shape
  obtain ⟨xk, xa, xi, xo, xw⟩ := x
  simp only [] at c0 c1 hk0 hxa hc hx ⊢
  subst hxa
  have HG := Lib.hid hg
  have HN := Lib.hid hn
  have HO := Lib.hid ho
  have HA := Lib.hid ha
  have HT := Lib.hid ht
  have HM := Lib.hid hm
  have HC0 := Lib.hid (And.intro c0 c1)
  have HC := Lib.hid hc
  have HX := Lib.hid hx
  have hu1 : NetA (fun b => Off vs b ∧ b < w.heap.size) w (netVal n vq aq tq vc ac tc) n := hu.both
  clear hg hn ho ha ht hm c0 c1 hk hc hx
  unfold actV
  go_enter Tryd.func11, Tryd.ntmps11
  go_wp2_with fail
  obtain ⟨W0, hW0⟩ := named (((w.alloc (.cells #[.slice vq n.v.length vc, .slice aq n.a.length ac, .slice tq n.t.length tc] 26)).alloc (.cells #[.int .i64 xk, .int .i64 k, .int .i64 xi, .int .i64 xo, .int .i64 xw] 49)).alloc (.cells #[.slice none 0 0, .slice none 0 0, .slice none 0 0] 26))
  rw [← hW0]
  have hbw : Below w.heap.size w W0 := by rw [hW0]; exact (below_alloc2 _ _).alloc (by simp; omega) _
  have BW := Lib.hid hbw
  have KX : Hid (Blk W0 (w.heap.size + 1) #[.int .i64 xk, .int .i64 k, .int .i64 xi, .int .i64 xo, .int .i64 xw] 49) := by rw [hW0]; exact Lib.hid ((Blk.new _ _ _ _ (by simp)).old _)
  have KR : Hid (Blk W0 (w.heap.size + 1 + 1) #[.slice none 0 0, .slice none 0 0, .slice none 0 0] 26) := by rw [hW0]; exact Lib.hid (Blk.new _ _ _ _ (by simp))
  have B0 := Lib.hid (bOn6 hb0 hbw)
  have hgb : GraphAt (fun b => Off vs b ∧ b ≠ w.heap.size + 1 + 1) w p n va vt := h.both.mono (fun b h => ⟨h.1, by have := h.2; omega⟩)
  have G0 := Lib.hid (hgb.old hbw)
  have U0 := Lib.hid (hu1.old hbw)
  have M0 : Hid (∀ v ∈ vs, MutR W0 v) := Lib.hid (fun v hv => (HM.out v hv).old hbw)
  clear hW0 hbw hb0 h hu hu1 hgb
  refine (rbend_ok (Q := fun b => Off vs b ∧ b ≠ w.heap.size + 1 + 1) U0.out.net HN.out (fun w' hb b cs t hk h1 h2 h3 => ⟨off_blk (fun v hv => (M0.out v hv).old hb) hk h1 h2, fun e => by subst e; exact h3 (by have := (KR.out.keep hb); unfold Blk at this hk; rw [this] at hk; injection hk with hk; injection hk with _ hk)⟩) k hka xi xo xw HX.out HC.out).mono ?_
  rintro e w1 ⟨uv, rfl, hU, hb⟩
  obtain ⟨vq2, aq2, tq2, vc2, ac2, tc2, rfl, -⟩ := hU.net.shape
  simp only [List.length_set]
  have HU := Lib.hid hU
  have HB := Lib.hid hb
  clear hU hb
  go_wp2_with fail
  obtain ⟨W1, hW1⟩ := named ((w1.alloc (.cells #[.slice vq2 n.v.length vc2, .slice aq2 n.a.length ac2, .slice tq2 n.t.length tc2] 26)).alloc (.cells #[.slice none 0 0, .int .i64 0] 65))
  rw [← hW1]
  have hb1 : Below w1.heap.size w1 W1 := by rw [hW1]; exact below_alloc2 _ _
  have K8 : Hid (Blk W1 w1.heap.size #[.slice vq2 n.v.length vc2, .slice aq2 n.a.length ac2, .slice tq2 n.t.length tc2] 26) := by rw [hW1]; exact Lib.hid ((Blk.new _ _ _ _ rfl).old _)
  have K9 : Hid (Blk W1 (w1.heap.size + 1) #[.slice none 0 0, .int .i64 0] 65) := by rw [hW1]; exact Lib.hid (Blk.new _ _ _ _ (by simp))
  have HB1 := Lib.hid (bOn6 HB.out hb1)
  have U1 := Lib.hid (HU.out.old hb1)
  have KX1 := Lib.hid (KX.out.keep HB1.out)
  have KR1 := Lib.hid (KR.out.keep HB1.out)
  have M1 : Hid (∀ v ∈ vs, MutR W1 v) := Lib.hid (fun v hv => (M0.out v hv).old HB1.out)
  have DS0 := Lib.hid (GG.DoS.start (j := 10) (m := ⟨n.v, n.a, n.t.set k (n.t[k].1, n.t[k].2.1, n.t[k].2.2.set (xi * n.t[k].2.1 + xo).toNat xw)⟩) (G0.out.old HB1.out) (bOn6 B0.out HB1.out))
  have S2 : Hid (∀ v ∈ [va, vt], v ∈ vs) := Lib.hid (by intro v hv; simp at hv; rcases hv with rfl | rfl; exact HA.out; exact HT.out)
  have M2 : Hid (∀ v ∈ [va, vt], MutR W1 v) := Lib.hid (fun v hv => M1.out v (S2.out v hv))
  clear hW1 hb1 HU HB
  refine' GG.wp_thenL _ 13 (GG.DoS 10 (fun b => Off vs b ∧ b ≠ w.heap.size + 1 + 1) va vt p n ⟨n.v, n.a, n.t.set k (n.t[k].1, n.t[k].2.1, n.t[k].2.2.set (xi * n.t[k].2.1 + xo).toNat xw)⟩ w0 W1) [[], [], [], [2], [], [4], [], [6], [], [8], [1, 2, 3, 4, 5, 6, 7, 8, 9], [], [1, 2, 3, 4, 5, 6, 7, 8, 9, 10, 11]] (GG.Fact.lit (Rl := GG.RlT) _ :: GG.Fact.lit (Rl := GG.RlT) _ :: GG.Fact.lit (Rl := GG.RlT) _ :: GG.Fact.lit (Rl := GG.RlT) _ :: GG.Fact.lit (Rl := GG.RlT) _ :: GG.Fact.lit (Rl := GG.RlT) _ :: GG.Fact.lit (Rl := GG.RlT) _ :: GG.Fact.lit (Rl := GG.RlT) _ :: GG.Fact.lit (Rl := GG.RlT) _ :: GG.Fact.lit (Rl := GG.RlT) _ :: GG.Fact.lit (Rl := GG.RlT) _ :: GG.Fact.lit (Rl := GG.RlT) _ :: GG.Fact.lit (Rl := GG.RlT) _ :: []) (by kernel_rfl) rfl (by kernel_rfl) (()) (DS0.out) ?seqbendok
  case' seqbendok => skip
  (refine' GG.grow_lit (GG.DoS.still (by decide)) rfl ?wtbendok0 ?runbendok0 ?putbendok0 ?nextbendok0; (case wtbendok0 => rfl); (case runbendok0 => (intro w' hS; (obtain ⟨dn, s, hS⟩ := hS); (obtain ⟨a0, a1, a2, -, -, -⟩ := (hS.k.blk K8.out (off_blk M2.out K8.out (by decide) (by decide))).o3); (obtain ⟨d0, d1, -, -⟩ := (hS.k.blk K9.out (off_blk M2.out K9.out (by decide) (by decide))).o2); (obtain ⟨x0, x1, x2, x3, x4, -⟩ := Blk.o5 (hS.k.blk KX1.out (off_blk M2.out KX1.out (by decide) (by decide)))); clear hS; go_simp; first | done | exact rfl)); (case putbendok0 => (first | (simp only [Act.put, List.setIfInBounds_toArray, List.set_cons_zero, List.set_cons_succ]; first | done | exact rfl) | rfl)); (case' nextbendok0 => skip))
  (refine' GG.grow_lit (GG.DoS.still (by decide)) rfl ?wtbendok1 ?runbendok1 ?putbendok1 ?nextbendok1; (case wtbendok1 => rfl); (case runbendok1 => (intro w' hS; (obtain ⟨dn, s, hS⟩ := hS); (obtain ⟨a0, a1, a2, -, -, -⟩ := (hS.k.blk K8.out (off_blk M2.out K8.out (by decide) (by decide))).o3); (obtain ⟨d0, d1, -, -⟩ := (hS.k.blk K9.out (off_blk M2.out K9.out (by decide) (by decide))).o2); (obtain ⟨x0, x1, x2, x3, x4, -⟩ := Blk.o5 (hS.k.blk KX1.out (off_blk M2.out KX1.out (by decide) (by decide)))); clear hS; go_simp; first | done | exact rfl)); (case putbendok1 => (first | (simp only [Act.put, List.setIfInBounds_toArray, List.set_cons_zero, List.set_cons_succ]; first | done | exact rfl) | rfl)); (case' nextbendok1 => skip))
  (refine' GG.grow_lit (GG.DoS.still (by decide)) rfl ?wtbendok2 ?runbendok2 ?putbendok2 ?nextbendok2; (case wtbendok2 => rfl); (case runbendok2 => (intro w' hS; (obtain ⟨dn, s, hS⟩ := hS); (obtain ⟨a0, a1, a2, -, -, -⟩ := (hS.k.blk K8.out (off_blk M2.out K8.out (by decide) (by decide))).o3); (obtain ⟨d0, d1, -, -⟩ := (hS.k.blk K9.out (off_blk M2.out K9.out (by decide) (by decide))).o2); (obtain ⟨x0, x1, x2, x3, x4, -⟩ := Blk.o5 (hS.k.blk KX1.out (off_blk M2.out KX1.out (by decide) (by decide)))); clear hS; go_simp; first | done | exact rfl)); (case putbendok2 => (first | (simp only [Act.put, List.setIfInBounds_toArray, List.set_cons_zero, List.set_cons_succ]; first | done | exact rfl) | rfl)); (case' nextbendok2 => skip))
  (refine' GG.grow_lit (GG.DoS.still (by decide)) rfl ?wtbendok3 ?runbendok3 ?putbendok3 ?nextbendok3; (case wtbendok3 => rfl); (case runbendok3 => (intro w' hS; (obtain ⟨dn, s, hS⟩ := hS); (obtain ⟨a0, a1, a2, -, -, -⟩ := (hS.k.blk K8.out (off_blk M2.out K8.out (by decide) (by decide))).o3); (obtain ⟨d0, d1, -, -⟩ := (hS.k.blk K9.out (off_blk M2.out K9.out (by decide) (by decide))).o2); (obtain ⟨x0, x1, x2, x3, x4, -⟩ := Blk.o5 (hS.k.blk KX1.out (off_blk M2.out KX1.out (by decide) (by decide)))); clear hS; go_simp; first | done | exact rfl)); (case putbendok3 => (first | (simp only [Act.put, List.setIfInBounds_toArray, List.set_cons_zero, List.set_cons_succ]; first | done | exact rfl) | rfl)); (case' nextbendok3 => skip))
  (refine' GG.grow_lit (GG.DoS.still (by decide)) rfl ?wtbendok4 ?runbendok4 ?putbendok4 ?nextbendok4; (case wtbendok4 => rfl); (case runbendok4 => (intro w' hS; (obtain ⟨dn, s, hS⟩ := hS); (obtain ⟨a0, a1, a2, -, -, -⟩ := (hS.k.blk K8.out (off_blk M2.out K8.out (by decide) (by decide))).o3); (obtain ⟨d0, d1, -, -⟩ := (hS.k.blk K9.out (off_blk M2.out K9.out (by decide) (by decide))).o2); (obtain ⟨x0, x1, x2, x3, x4, -⟩ := Blk.o5 (hS.k.blk KX1.out (off_blk M2.out KX1.out (by decide) (by decide)))); clear hS; go_simp; first | done | exact rfl)); (case putbendok4 => (first | (simp only [Act.put, List.setIfInBounds_toArray, List.set_cons_zero, List.set_cons_succ]; first | done | exact rfl) | rfl)); (case' nextbendok4 => skip))
  (refine' GG.grow_lit (GG.DoS.still (by decide)) rfl ?wtbendok5 ?runbendok5 ?putbendok5 ?nextbendok5; (case wtbendok5 => rfl); (case runbendok5 => (intro w' hS; (obtain ⟨dn, s, hS⟩ := hS); (obtain ⟨a0, a1, a2, -, -, -⟩ := (hS.k.blk K8.out (off_blk M2.out K8.out (by decide) (by decide))).o3); (obtain ⟨d0, d1, -, -⟩ := (hS.k.blk K9.out (off_blk M2.out K9.out (by decide) (by decide))).o2); (obtain ⟨x0, x1, x2, x3, x4, -⟩ := Blk.o5 (hS.k.blk KX1.out (off_blk M2.out KX1.out (by decide) (by decide)))); clear hS; go_simp; first | done | exact rfl)); (case putbendok5 => (first | (simp only [Act.put, List.setIfInBounds_toArray, List.set_cons_zero, List.set_cons_succ]; first | done | exact rfl) | rfl)); (case' nextbendok5 => skip))
  (refine' GG.grow_lit (GG.DoS.still (by decide)) rfl ?wtbendok6 ?runbendok6 ?putbendok6 ?nextbendok6; (case wtbendok6 => rfl); (case runbendok6 => (intro w' hS; (obtain ⟨dn, s, hS⟩ := hS); (obtain ⟨a0, a1, a2, -, -, -⟩ := (hS.k.blk K8.out (off_blk M2.out K8.out (by decide) (by decide))).o3); (obtain ⟨d0, d1, -, -⟩ := (hS.k.blk K9.out (off_blk M2.out K9.out (by decide) (by decide))).o2); (obtain ⟨x0, x1, x2, x3, x4, -⟩ := Blk.o5 (hS.k.blk KX1.out (off_blk M2.out KX1.out (by decide) (by decide)))); clear hS; go_simp; first | done | exact rfl)); (case putbendok6 => (first | (simp only [Act.put, List.setIfInBounds_toArray, List.set_cons_zero, List.set_cons_succ]; first | done | exact rfl) | rfl)); (case' nextbendok6 => skip))
  (refine' GG.grow_lit (GG.DoS.still (by decide)) rfl ?wtbendok7 ?runbendok7 ?putbendok7 ?nextbendok7; (case wtbendok7 => rfl); (case runbendok7 => (intro w' hS; (obtain ⟨dn, s, hS⟩ := hS); (obtain ⟨a0, a1, a2, -, -, -⟩ := (hS.k.blk K8.out (off_blk M2.out K8.out (by decide) (by decide))).o3); (obtain ⟨d0, d1, -, -⟩ := (hS.k.blk K9.out (off_blk M2.out K9.out (by decide) (by decide))).o2); (obtain ⟨x0, x1, x2, x3, x4, -⟩ := Blk.o5 (hS.k.blk KX1.out (off_blk M2.out KX1.out (by decide) (by decide)))); clear hS; go_simp; first | done | exact rfl)); (case putbendok7 => (first | (simp only [Act.put, List.setIfInBounds_toArray, List.set_cons_zero, List.set_cons_succ]; first | done | exact rfl) | rfl)); (case' nextbendok7 => skip))
  (refine' GG.grow_lit (GG.DoS.still (by decide)) rfl ?wtbendok8 ?runbendok8 ?putbendok8 ?nextbendok8; (case wtbendok8 => rfl); (case runbendok8 => (intro w' hS; (obtain ⟨dn, s, hS⟩ := hS); (obtain ⟨a0, a1, a2, -, -, -⟩ := (hS.k.blk K8.out (off_blk M2.out K8.out (by decide) (by decide))).o3); (obtain ⟨d0, d1, -, -⟩ := (hS.k.blk K9.out (off_blk M2.out K9.out (by decide) (by decide))).o2); (obtain ⟨x0, x1, x2, x3, x4, -⟩ := Blk.o5 (hS.k.blk KX1.out (off_blk M2.out KX1.out (by decide) (by decide)))); clear hS; go_simp; first | done | exact rfl)); (case putbendok8 => (first | (simp only [Act.put, List.setIfInBounds_toArray, List.set_cons_zero, List.set_cons_succ]; first | done | exact rfl) | rfl)); (case' nextbendok8 => skip))
  (refine' GG.grow_lit (GG.DoS.still (by decide)) rfl ?wtbendok9 ?runbendok9 ?putbendok9 ?nextbendok9; (case wtbendok9 => rfl); (case runbendok9 => (intro w' hS; (obtain ⟨dn, s, hS⟩ := hS); (obtain ⟨a0, a1, a2, -, -, -⟩ := (hS.k.blk K8.out (off_blk M2.out K8.out (by decide) (by decide))).o3); (obtain ⟨d0, d1, -, -⟩ := (hS.k.blk K9.out (off_blk M2.out K9.out (by decide) (by decide))).o2); (obtain ⟨x0, x1, x2, x3, x4, -⟩ := Blk.o5 (hS.k.blk KX1.out (off_blk M2.out KX1.out (by decide) (by decide)))); clear hS; go_simp; first | done | exact rfl)); (case putbendok9 => (first | (simp only [Act.put, List.setIfInBounds_toArray, List.set_cons_zero, List.set_cons_succ]; first | done | exact rfl) | rfl)); (case' nextbendok9 => skip))
  (refine' GG.grow_lit_call (u := .nilIface) rfl Tryd.func16 (by kernel_rfl) rfl rfl ?wtbendok10 ?runbendok10 ?putbendok10 ?nextbendok10; (case wtbendok10 => rfl); (case runbendok10 => (intro dn s w' hS hd H; (obtain ⟨uv, b1, d1, b2, d2, hg⟩ := hS.g0 hd); exact (gbend_ok hg HN.out (fun b hb => Off.sub (fun v hv => by simp at hv; subst hv; exact HT.out) b hb.1) (fun b hb => ⟨off_new M1.out (Nat.le_trans hS.k.size hb), by have := KR1.out.lt; have := hS.k.size; omega⟩) k hka xi xo xw HX.out HC.out).mono (fun e w2 ⟨h1, h2, h3⟩ => ⟨(), h1, hS.put ⟨uv, b1, d1, b2, d2, h2⟩ (h3.mono (Off.sub (by simp))) HO.out, trivial, h3.size⟩))); (case putbendok10 => (first | (simp only [Act.put, List.setIfInBounds_toArray, List.set_cons_zero, List.set_cons_succ]; first | done | exact rfl) | rfl)); (case' nextbendok10 => skip))
  (refine' GG.grow_lit (GG.DoS.still (by decide)) rfl ?wtbendok11 ?runbendok11 ?putbendok11 ?nextbendok11; (case wtbendok11 => rfl); (case runbendok11 => (intro w' hS; (obtain ⟨dn, s, hS⟩ := hS); (obtain ⟨a0, a1, a2, -, -, -⟩ := (hS.k.blk K8.out (off_blk M2.out K8.out (by decide) (by decide))).o3); (obtain ⟨d0, d1, -, -⟩ := (hS.k.blk K9.out (off_blk M2.out K9.out (by decide) (by decide))).o2); (obtain ⟨x0, x1, x2, x3, x4, -⟩ := Blk.o5 (hS.k.blk KX1.out (off_blk M2.out KX1.out (by decide) (by decide)))); clear hS; go_simp; first | done | exact rfl)); (case putbendok11 => (first | (simp only [Act.put, List.setIfInBounds_toArray, List.set_cons_zero, List.set_cons_succ]; first | done | exact rfl) | rfl)); (case' nextbendok11 => skip))
  (refine' GG.grow_lit_call (u := .bool true) rfl Tryd.func24 (by kernel_rfl) rfl rfl ?wtbendok12 ?runbendok12 ?putbendok12 ?nextbendok12; (case wtbendok12 => rfl); (case runbendok12 => (intro dn s w' hS hd H; exact (tells_post _ _ [] 0 w' (HG.out.below HG.out.lt hS.b) (Or.inl ⟨rfl, rfl⟩) ⟨_, rfl, Or.inl ⟨rfl, rfl⟩⟩ (Or.inl ⟨rfl, rfl⟩)).mono (fun e w2 h => ⟨(), h.1, hS.step (by decide) h.2, trivial, h.2.size⟩))); (case putbendok12 => (first | (simp only [Act.put, List.setIfInBounds_toArray, List.set_cons_zero, List.set_cons_succ]; first | done | exact rfl) | rfl)); (case' nextbendok12 => skip))
  intro dn s w2 hS hdn _
  have kr := hS.k.blk KR1.out (off_blk M2.out KR1.out (by decide) (by decide))
  have KF : Keep (Off [va, vt]) w w2 := ((Keep.of BW.out).trans (Keep.of HB1.out)).trans hS.k
  have G2 := hS.g1 (hdn 10 (by decide))
  have U2 := (U1.out.mono (Q := fun b => (Off vs b ∧ b ≠ w.heap.size + 1 + 1)) (fun b h => h)).keep (hS.k.mono (fun b h => Off.sub S2.out b h.1))
  clear hS
  have KB : Keep (fun b => b ≠ w.heap.size + 1 + 1) w2 (((w2.setCell ⟨w.heap.size + 1 + 1, 0, none⟩ (.slice vq2 n.v.length vc2)).setCell ⟨w.heap.size + 1 + 1, 1, none⟩ (.slice aq2 n.a.length ac2)).setCell ⟨w.heap.size + 1 + 1, 2, none⟩ (.slice tq2 n.t.length tc2)) := (((Keep.refl _ _).setCell (fun h => h rfl) _ _).setCell (fun h => h rfl) _ _).setCell (fun h => h rfl) _ _
  have UF := Lib.hid (U2)
  have UFF : Hid (NetA (Off vs) (((w2.setCell ⟨w.heap.size + 1 + 1, 0, none⟩ (.slice vq2 n.v.length vc2)).setCell ⟨w.heap.size + 1 + 1, 1, none⟩ (.slice aq2 n.a.length ac2)).setCell ⟨w.heap.size + 1 + 1, 2, none⟩ (.slice tq2 n.t.length tc2)) (.agg #[.slice vq2 n.v.length vc2, .slice aq2 n.a.length ac2, .slice tq2 n.t.length tc2]) ⟨n.v, n.a, n.t.set k (n.t[k].1, n.t[k].2.1, n.t[k].2.2.set (xi * n.t[k].2.1 + xo).toNat xw)⟩) := Lib.hid (by have h := (UF.out.keep (KB.mono (fun b h => h.2))).mono (Q := Off vs) (fun b h => h.1); (try simp only [List.length_set] at h); exact h)
  have GF : Hid (GraphAt (Off vs) (((w2.setCell ⟨w.heap.size + 1 + 1, 0, none⟩ (.slice vq2 n.v.length vc2)).setCell ⟨w.heap.size + 1 + 1, 1, none⟩ (.slice aq2 n.a.length ac2)).setCell ⟨w.heap.size + 1 + 1, 2, none⟩ (.slice tq2 n.t.length tc2)) p ⟨n.v, n.a, n.t.set k (n.t[k].1, n.t[k].2.1, n.t[k].2.2.set (xi * n.t[k].2.1 + xo).toNat xw)⟩ va vt) := Lib.hid (by
    exact (G2.keep KB (fun b h => h.2) (fun b e => by have := (HM.out va HA.out).lt e; omega) (fun b e => by have := (HM.out vt HT.out).lt e; omega)).mono (fun b h => h.1))
  have KFF : Hid (Keep (Off [va, vt]) w (((w2.setCell ⟨w.heap.size + 1 + 1, 0, none⟩ (.slice vq2 n.v.length vc2)).setCell ⟨w.heap.size + 1 + 1, 1, none⟩ (.slice aq2 n.a.length ac2)).setCell ⟨w.heap.size + 1 + 1, 2, none⟩ (.slice tq2 n.t.length tc2))) := Lib.hid (by
    have hK2 : Keep (fun b => b < w.heap.size) w2 (((w2.setCell ⟨w.heap.size + 1 + 1, 0, none⟩ (.slice vq2 n.v.length vc2)).setCell ⟨w.heap.size + 1 + 1, 1, none⟩ (.slice aq2 n.a.length ac2)).setCell ⟨w.heap.size + 1 + 1, 2, none⟩ (.slice tq2 n.t.length tc2)) := KB.mono (fun b h => by omega)
    exact KF.trans2 hK2)
  obtain ⟨r0, r1, r2, f0, f1, f2⟩ := kr.o3
  have lr := kr.lt
  clear kr KB G2 U2 UF
  refine wpAny_ready (rs := [13]) (by kernel_rfl) (by simp) (AllReady.cons rfl (fun K hK => ?_) AllReady.nil)
  go_simp
  refine hK _ _ ?_
  clear hK K
  refine wpAny_ready (rs := [14]) (by kernel_rfl) (by simp) (AllReady.cons rfl (fun K hK => ?_) AllReady.nil)
  go_simp
  refine hK _ _ ?_
  clear hK K
  refine wpAny_done (by kernel_rfl) ?_ _
  go_wp2_with fail
  exact bodyPost_ret (v := .tuple #[.agg #[.slice vq2 n.v.length vc2, .slice aq2 n.a.length ac2, .slice tq2 n.t.length tc2], .bool true]) (by simp [results, Tryd.results11, go_sem]; go_simp) rfl ⟨_, rfl, UFF.out, GF.out, KFF.out⟩

/-- An act, of a graph and of the document's net. -/
theorem do6_any {w0 : World} (hg : ErrT w0) (hb0 : Below w0.heap.size w0 w) (ho : ∀ b, b < w0.heap.size → Off [va, vt] b) (h : GraphAt (Off vs) w p n va vt) (hn : GrN n) (hu : NetA (Off vs) w u n) (ha : va ∈ vs) (ht : vt ∈ vs) (hm : ∀ v ∈ vs, MutR w v) (x : ActD) (c0 : -9223372036854775808 ≤ x.w) (c1 : x.w ≤ 9223372036854775807) :
    Calls Tryd.prog 11 #[gp p, u, actV x] w fun e w' => ∃ u', e = .returned (.tuple #[u', .bool true]) ∧ NetA (Off vs) w' u' (actN n x).1 ∧ GraphAt (Off vs) w' p (actN n x).1 va vt ∧ Keep (Off [va, vt]) w w' := by
  by_cases hk : x.k = 0
  · have e : actN n x = setN n x.a x.w := if_pos hk
    rw [e]
    by_cases hz : (setN n x.a x.w).2.2 = 0
    · obtain ⟨k, hka, hxa, hc, em⟩ := setN_ok hz
      rw [em]
      exact do6_setok hg hb0 ho h hn hu ha ht hm x c0 c1 hk k hka hxa hc
    · have em : (setN n x.a x.w).1 = n := by
        unfold setN at hz ⊢
        split
        · rfl
        · split
          · rfl
          · next h1 h2 => rw [if_neg h1, if_neg h2] at hz; exact absurd rfl hz
      rw [em]
      exact do6_seterr hg hb0 ho h hn hu ha ht hm x c0 c1 hk _ rfl hz
  · have e : actN n x = bendN n x.a x.i x.o x.w := if_neg hk
    rw [e]
    by_cases hz : (bendN n x.a x.i x.o x.w).2.2 = 0
    · obtain ⟨k, hka, hxa, hc, hx, em⟩ := bendN_ok hz
      rw [em]
      exact do6_bendok hg hb0 ho h hn hu ha ht hm x c0 c1 hk k hka hxa hc hx
    · have em : (bendN n x.a x.i x.o x.w).1 = n := by
        unfold bendN at hz ⊢
        split
        · rfl
        · split
          · next h1 h2 => rw [if_neg h1, if_pos h2] at hz; exact absurd rfl hz
          · rfl
      rw [em]
      exact do6_benderr hg hb0 ho h hn hu ha ht hm x c0 c1 hk _ rfl hz
end
end Go.Proofs.YtgehjkcjpbdoaaaDoor
