/-
  A box that holds a net's header is none of the blocks in which a graph, a net lies.
-/
import Derived.Test.YtgehjkcjpbdoaaaDoorActsIn
namespace Go.Proofs.YtgehjkcjpbdoaaaDoor
open Go.RowKit

/-- No number among these cells. -/
def HdrC (cs : Array Value) : Prop := ∀ (i : Nat) (k : IntKind) (x : Int), cs[i]? ≠ some (.int k x)
theorem hdr3 (p q r : Option Addr) (a b c d e f : Nat) : HdrC #[.slice p a b, .slice q c d, .slice r e f] := by
  intro i k x h
  match i, h with
  | 0, h => simp at h
  | 1, h => simp at h
  | 2, h => simp at h
  | i + 3, h => simp at h
section
variable {P : Nat → Prop} {w w' : World} {v : Value} {s : Nat} {cs : Array Value} {t : TypeId}
theorem HdrC.ne (hc : HdrC cs) (hk : Blk w s cs t) {b o : Nat} {k : IntKind} {x : Int} (h : w.cell? ⟨b, o, none⟩ = some (.int k x)) : b ≠ s := by
  rintro rfl
  rw [cell_of_row w b o cs t (0, 0) hk] at h
  exact hc o k x h
theorem Tris.off {l : List Tri} (h : Tris w v l) (hk : Blk w s cs t) (hc : HdrC cs) : Av (fun b => b ≠ s) v := by
  rcases h with ⟨rfl, p, c, rfl, -⟩ | ⟨hl, b, o, c, h1, h2, rfl, h3⟩
  · exact Av.nil _ _ _
  · intro b' o' s' n' c' e h0
    injection e with e1 e2 e3
    injection e1 with e1
    injection e1 with e1
    subst e1
    exact hc.ne hk (h3 0 (by omega)).1
theorem I64s.off {l : List Int} (h : I64s w v l) (hk : Blk w s cs t) (hc : HdrC cs) : Av (fun b => b ≠ s) v := by
  rcases h with ⟨rfl, p, c, rfl, -⟩ | ⟨hl, b, o, c, h1, h2, rfl, h3⟩
  · exact Av.nil _ _ _
  · intro b' o' s' n' c' e h0
    injection e with e1 e2 e3
    injection e1 with e1
    injection e1 with e1
    subst e1
    exact hc.ne hk (h3 0 (by omega))
theorem TabsA.off {l : List Tab} (h : TabsA P w v l) (hk : Blk w s cs t) (hc : HdrC cs) : TabsA (fun b => P b ∧ b ≠ s) w v l := by
  rcases h with h | ⟨hl, b, o, c, h1, h2, h3, h4⟩
  · exact Or.inl h
  · refine Or.inr ⟨hl, b, o, c, h1, h2, h3, fun i hi => ?_⟩
    obtain ⟨hp, u, x, y, z, k, ha⟩ := h4 i hi
    exact ⟨⟨hp, hc.ne hk x⟩, u, x, y, z, k, ha.both (k.off hk hc)⟩
theorem NetA.off {n : NetD} (h : NetA P w v n) (hk : Blk w s cs t) (hc : HdrC cs) : NetA (fun b => P b ∧ b ≠ s) w v n := by
  obtain ⟨uv, ua, ut, e, ⟨h1, a1⟩, ⟨h2, a2⟩, h3⟩ := h
  exact ⟨uv, ua, ut, e, ⟨h1, a1.both (h1.off hk hc)⟩, ⟨h2, a2.both (h2.off hk hc)⟩, h3.off hk hc⟩
/-- A write to such a box leaves the net. -/
theorem NetA.box {n : NetD} (h : NetA P w v n) (hk : Blk w s cs t) (hc : HdrC cs) (k : Keep (fun b => b ≠ s) w w') : NetA P w' v n := ((h.off hk hc).keep (k.mono fun _ h => h.2)).mono fun _ h => h.1
end
section
variable {P : Nat → Prop} {w w0 w' : World} {p s : Nat} {n : NetD} {uv va vt : Value} {b1 d1 b2 d2 : Nat} {cs : Array Value}
theorem SideAt.off {b d m k : Nat} {L : Nat → List Int} {f : Nat → Int} (h : SideAt P w b d m k L f) (hk : Blk w s cs 26) (hc : HdrC cs) : SideAt (fun b => P b ∧ b ≠ s) w b d m k L f := by
  obtain ⟨us, h1, h2, h3, h4, h5, h6⟩ := h
  exact ⟨us, h1, h2, ⟨h3, h1.ne hk (by decide)⟩, h4, ⟨h5, h4.ne hk (by decide)⟩, fun i u hu => ⟨(h6 i u hu).1, (h6 i u hu).2.both ((h6 i u hu).1.off hk hc)⟩⟩
theorem GrS.off (h : GrS P w p n uv va vt b1 d1 b2 d2) (hk : Blk w s cs 26) (hc : HdrC cs) : GrS (fun b => P b ∧ b ≠ s) w p n uv va vt b1 d1 b2 d2 := by
  obtain ⟨us, t1, t2⟩ := h.t
  exact ⟨h.k, ⟨h.p, h.k.ne hk (by decide)⟩, h.v, h.av.both (h.v.off hk hc), h.a, ⟨us, t1, t2.1, fun i t u e1 e2 => ⟨(t2.2 i t u e1 e2).1, (t2.2 i t u e1 e2).2.both ((t2.2 i t u e1 e2).1.off hk hc)⟩⟩, h.ins.off hk hc, h.outs.off hk hc⟩
/-- A write to such a box leaves the graph. -/
theorem GraphAt.box (h : GraphAt P w p n va vt) (hk : Blk w s cs 26) (hc : HdrC cs) (k : Keep (fun b => b ≠ s) w w') : GraphAt P w' p n va vt := by
  obtain ⟨uv, b1, d1, b2, d2, h⟩ := h
  obtain ⟨us, t1, -⟩ := h.t
  exact ⟨uv, b1, d1, b2, d2, ((h.off hk hc).keep k (fun _ h => h.2) (fun b e => by rintro rfl; exact own_ne_blk h.a hk (by decide) e) (fun b e => by rintro rfl; exact own_ne_blk t1 hk (by decide) e)).mono fun _ h => h.1⟩
theorem Gr1.box (h : Gr1 w0 w p n va vt) (hk : Blk w s cs 26) (hc : HdrC cs) (hs : w0.heap.size ≤ s) (k : Keep (fun b => b ≠ s) w w') : Gr1 w0 w' p n va vt :=
  ⟨h.g.box hk hc k, h.n, h.b.trans (k.below (fun b hb => by omega) h.b.size), h.o⟩
/-- A net's header is put into a box. -/
theorem keep_hdr (w : World) (s : Nat) (x y z : Value) : Keep (fun b => b ≠ s) w (((w.setCell ⟨s, 0, none⟩ x).setCell ⟨s, 1, none⟩ y).setCell ⟨s, 2, none⟩ z) := (((Keep.refl _ _).setCell (fun h => h rfl) _ _).setCell (fun h => h rfl) _ _).setCell (fun h => h rfl) _ _
theorem blk_hdr {w : World} {s : Nat} {a b c : Value} {t : TypeId} (h : Blk w s #[a, b, c] t) (x y z : Value) : Blk (((w.setCell ⟨s, 0, none⟩ x).setCell ⟨s, 1, none⟩ y).setCell ⟨s, 2, none⟩ z) s #[x, y, z] t := ((h.set 0 x).set 1 y).set 2 z
end
/-- A header in the box s. -/
def HdrAt (vs : List Value) (w : World) (s : Nat) (m : NetD) : Prop := ∃ (q1 q2 q3 : Option Addr) (c1 c2 c3 : Nat), Blk w s #[.slice q1 m.v.length c1, .slice q2 m.a.length c2, .slice q3 m.t.length c3] 26 ∧ NetA (Off vs) w (.agg #[.slice q1 m.v.length c1, .slice q2 m.a.length c2, .slice q3 m.t.length c3]) m
def ZeroAt (w : World) (s : Nat) : Prop := Blk w s #[.slice none 0 0, .slice none 0 0, .slice none 0 0] 26
def DoneP (vs : List Value) (m : NetD) (v : Value) (w : World) : Prop := ∃ u, v = .tuple #[u, .bool true] ∧ NetA (Off vs) w u m
/-- What each step keeps: where the box lies, what the net is. -/
def GG.RlM (vs : List Value) (M : NetD) (s : Nat) (w : World) (s' : Nat) (w' : World) : Prop := (s ≠ 0 → s' = s) ∧ ∀ v, NetA (Off vs) w v M → NetA (Off vs) w' v M
theorem DoneP.keep {vs : List Value} {M : NetD} {v : Value} {s s' : Nat} {w w' : World} (h : DoneP vs M v w) (k : GG.RlM vs M s w s' w') : DoneP vs M v w' := by
  obtain ⟨u, e, h⟩ := h
  exact ⟨u, e, k.2 _ h⟩
theorem GG.RlM.refl {vs : List Value} {M : NetD} {s : Nat} {w : World} : GG.RlM vs M s w s w := ⟨fun _ => rfl, fun _ h => h⟩
theorem graph_mut {P : Nat → Prop} {w : World} {p : Nat} {n : NetD} {va vt : Value} (h : GraphAt P w p n va vt) : ∀ v ∈ [va, vt], MutR w v := by
  intro v hv
  simp at hv
  rcases hv with rfl | rfl
  · exact h.arcs
  · exact h.tabs
theorem GG.DoS.mut {j : Nat} {P : Nat → Prop} {va vt : Value} {p : Nat} {n m : NetD} {w0 W0 : World} {dn : Nat → Bool} {u : Unit} {w : World} (h : GG.DoS j P va vt p n m w0 W0 dn u w) : ∀ v ∈ [va, vt], MutR w v := by
  cases e : dn j with
  | false => exact graph_mut (h.g0 e)
  | true => exact graph_mut (h.g1 e)
/-- While an act is done in a region that draws its order (6), and what it answers is laid (11) into a new box (10). -/
structure GG.ActS (vs : List Value) (va vt : Value) (p : Nat) (n m : NetD) (w0 W0 : World) (dn : Nat → Bool) (s : Nat) (w : World) : Prop where
  d : GG.DoS 6 (Off vs) va vt p n m w0 W0 dn () w
  z : dn 10 = false → s = 0
  lo : dn 10 = true → W0.heap.size ≤ s
  w0le : w0.heap.size ≤ W0.heap.size
  ord : dn 11 = true → dn 10 = true
  b0 : dn 10 = true → dn 11 = false → ZeroAt w s
  b1 : dn 11 = true → HdrAt vs w s m
section
variable {vs : List Value} {va vt : Value} {p : Nat} {n m : NetD} {w0 W0 w w' : World} {dn : Nat → Bool} {s : Nat}
theorem GG.ActS.start (h : GraphAt (Off vs) W0 p n va vt) (hb : Below w0.heap.size w0 W0) : GG.ActS vs va vt p n m w0 W0 (fun _ => false) 0 W0.drew :=
  ⟨GG.DoS.start h hb, fun _ => rfl, fun h => (by cases h), hb.size, fun h => (by cases h), fun h => (by cases h), fun h => (by cases h)⟩
theorem GG.done_ne {i k : Nat} (h : k ≠ i) : GG.doneG dn i k = dn k := if_neg h
theorem GG.done_eq {i : Nat} : GG.doneG dn i i = true := if_pos rfl
theorem GG.ActS.step (h : GG.ActS vs va vt p n m w0 W0 dn s w) {i : Nat} (h6 : 6 ≠ i) (h10 : 10 ≠ i) (h11 : 11 ≠ i) : GG.ActS vs va vt p n m w0 W0 (GG.doneG dn i) s w :=
  ⟨h.d.step h6 (Below.refl _ _), fun e => h.z (by rwa [GG.done_ne h10] at e), fun e => h.lo (by rwa [GG.done_ne h10] at e), h.w0le, fun e => (by rw [GG.done_ne h10]; rw [GG.done_ne h11] at e; exact h.ord e), fun e f => (by rw [GG.done_ne h10] at e; rw [GG.done_ne h11] at f; exact h.b0 e f), fun e => (by rw [GG.done_ne h11] at e; exact h.b1 e)⟩
theorem GG.ActS.still {i : Nat} (h6 : 6 ≠ i) (h10 : 10 ≠ i) (h11 : 11 ≠ i) : GG.Still (GG.ActS vs va vt p n m w0 W0) (GG.RlM vs m) i := ⟨fun _ _ _ h => h.step h6 h10 h11, fun _ _ => GG.RlM.refl⟩
theorem GG.ActS.put (h : GG.ActS vs va vt p n m w0 W0 dn s w) (ha : va ∈ vs) (ht : vt ∈ vs) (ho : ∀ b, b < w0.heap.size → Off [va, vt] b) (hg : GraphAt (Off vs) w' p m va vt) (hk : Keep (Off [va, vt]) w w') : GG.ActS vs va vt p n m w0 W0 (GG.doneG dn 6) s w' ∧ GG.RlM vs m s w s w' := by
  have hs : ∀ b, Off vs b → Off [va, vt] b := Off.sub (fun v hv => by simp at hv; rcases hv with rfl | rfl <;> assumption)
  have e10 : GG.doneG dn 6 10 = dn 10 := GG.done_ne (by decide)
  have e11 : GG.doneG dn 6 11 = dn 11 := GG.done_ne (by decide)
  refine ⟨⟨h.d.put hg hk ho, fun e => h.z (by rwa [e10] at e), fun e => h.lo (by rwa [e10] at e), h.w0le, fun e => (by rw [e10]; rw [e11] at e; exact h.ord e), fun e f => ?_, fun e => ?_⟩, fun _ => rfl, fun v hv => hv.keep (hk.mono hs)⟩
  · rw [e10] at e
    rw [e11] at f
    have := h.b0 e f
    exact hk.blk this (off_blk h.d.mut this (by decide) (by decide))
  · rw [e11] at e
    obtain ⟨q1, q2, q3, c1, c2, c3, h1, h2⟩ := h.b1 e
    exact ⟨q1, q2, q3, c1, c2, c3, hk.blk h1 (off_blk h.d.mut h1 (by decide) (by decide)), h2.keep (hk.mono hs)⟩
theorem GG.ActS.box (h : GG.ActS vs va vt p n m w0 W0 dn s w) (hd : dn 10 = false) : GG.ActS vs va vt p n m w0 W0 (GG.doneG dn 10) w.heap.size (w.alloc (.cells #[.slice none 0 0, .slice none 0 0, .slice none 0 0] 26)) ∧ GG.RlM vs m s w w.heap.size (w.alloc (.cells #[.slice none 0 0, .slice none 0 0, .slice none 0 0] 26)) := by
  have e11 : GG.doneG dn 10 11 = dn 11 := GG.done_ne (by decide)
  have h11 : dn 11 = false := by
    cases e : dn 11 with
    | false => rfl
    | true => rw [h.ord e] at hd; cases hd
  exact ⟨⟨h.d.step (by decide) (below_new _), fun e => (by rw [GG.done_eq] at e; cases e), fun _ => h.d.k.size, h.w0le, fun _ => GG.done_eq, fun _ _ => Blk.new _ _ _ _ rfl, fun e => (by rw [e11, h11] at e; cases e)⟩, fun e => absurd (h.z hd) e, fun v hv => hv.old (below_new _)⟩
theorem GG.ActS.zero (h : GG.ActS vs va vt p n m w0 W0 dn s w) (hs : s ≠ 0) (hd : dn 11 = false) : ZeroAt w s := by
  cases e : dn 10 with
  | true => exact h.b0 e hd
  | false => exact absurd (h.z e) hs
theorem GG.ActS.lay (h : GG.ActS vs va vt p n m w0 W0 dn s w) (hs : s ≠ 0) (hd : dn 11 = false) {q1 q2 q3 : Option Addr} {c1 c2 c3 : Nat} (hu : NetA (Off vs) w (.agg #[.slice q1 m.v.length c1, .slice q2 m.a.length c2, .slice q3 m.t.length c3]) m) (hw : ((w.setCell ⟨s, 0, none⟩ (.slice q1 m.v.length c1)).setCell ⟨s, 1, none⟩ (.slice q2 m.a.length c2)).setCell ⟨s, 2, none⟩ (.slice q3 m.t.length c3) = w') :
    GG.ActS vs va vt p n m w0 W0 (GG.doneG dn 11) s w' ∧ GG.RlM vs m s w s w' := by
  have h10 : dn 10 = true := by
    cases e : dn 10 with
    | true => rfl
    | false => exact absurd (h.z e) hs
  have e10 : GG.doneG dn 11 10 = dn 10 := GG.done_ne (by decide)
  have e6 : GG.doneG dn 11 6 = dn 6 := GG.done_ne (by decide)
  have hz := h.b0 h10 hd
  have hl := h.lo h10
  have hk : Keep (fun b => b ≠ s) w w' := hw ▸ keep_hdr w s _ _ _
  have hn : ∀ v, NetA (Off vs) w v m → NetA (Off vs) w' v m := fun v hv => hv.box hz (hdr3 _ _ _ _ _ _ _ _ _) hk
  have hz0 := h.d.b.size
  have hzw : w0.heap.size ≤ s := by
    exact Nat.le_trans h.w0le hl
  refine ⟨⟨⟨h.d.k.trans2 (hk.mono (fun b hb => by omega)), h.d.b.trans (hk.below (fun b hb => by omega) hz0), fun e => (h.d.g0 (by rwa [e6] at e)).box hz (hdr3 _ _ _ _ _ _ _ _ _) hk, fun e => (h.d.g1 (by rwa [e6] at e)).box hz (hdr3 _ _ _ _ _ _ _ _ _) hk⟩, fun e => (by rw [e10, h10] at e; cases e), fun _ => hl, h.w0le, fun _ => (by rw [e10]; exact h10), fun _ e => (by rw [GG.done_eq] at e; cases e), fun _ => ⟨q1, q2, q3, c1, c2, c3, hw ▸ blk_hdr hz _ _ _, hn _ hu⟩⟩, fun _ => rfl, hn⟩
end
namespace GG
variable {σ : Type} {Rl : σ → World → σ → World → Prop} {P : Program} {ops : Array Oper} {n : Nat} {A : List (List Nat)} {S : (Nat → Bool) → σ → World → Prop} {Ds : List (Fact Rl)} {fin : Act → Prop} {i : Nat} {o : Oper} {r : List Oper} {c : Act}
/-- A store. -/
theorem grow_store (hf : factAt Ds i = .lit undef) (hw : Region.wanted o (yielded ops c.tmps) = true)
    (hrun : ∀ dn s w, S dn s w → dn i = false → (∀ k ∈ A.getD i [], holdsAt ops Ds n k c s w) → ∃ s' w', (execOp c.eval o).run P w = .ok .skip w' ∧ S (doneG dn i) s' w' ∧ Rl s w s' w' ∧ w.heap.size ≤ w'.heap.size)
    {c' : Act} (hc : c.put o.dst undef = c') (h : GrowSeq P ops n A S Ds fin (i + 1) r c') : GrowSeq P ops n A S Ds fin i (o :: r) c := by
  subst hc
  refine ⟨fun dn s w hS hd H K hK => ?_, by rw [hf]; exact h⟩
  rw [if_pos hw]
  obtain ⟨s', w', h1, h3, h4⟩ := hrun dn s w hS hd H
  unfold Oper.wp
  rw [h1]
  exact hK undef s' w' (by rw [hf]; exact rfl) (fun h => by rw [hf] at h; cases h) h3 h4
end GG
theorem do6_to {w0 w : World} {vs : List Value} {p : Nat} {n M : NetD} {va vt u : Value} (hg : ErrT w0) (hb0 : Below w0.heap.size w0 w) (ho : ∀ b, b < w0.heap.size → Off [va, vt] b) (h : GraphAt (Off vs) w p n va vt) (hn : GrN n) (hu : NetA (Off vs) w u n) (ha : va ∈ vs) (ht : vt ∈ vs) (hm : ∀ v ∈ vs, MutR w v) (x : ActD) (hx : -9223372036854775808 ≤ x.w ∧ x.w ≤ 9223372036854775807) (hM : (actN n x).1 = M) :
    Calls Tryd.prog 11 #[gp p, u, actV x] w fun e w' => ∃ u', e = .returned (.tuple #[u', .bool true]) ∧ NetA (Off vs) w' u' M ∧ GraphAt (Off vs) w' p M va vt ∧ Keep (Off [va, vt]) w w' := by
  subst hM
  exact do6_any hg hb0 ho h hn hu ha ht hm x hx.1 hx.2
theorem act_bounds {l : List ActD} (h : InAct l) {k : Nat} (hk : k < l.length) : -9223372036854775808 ≤ l[k].w ∧ l[k].w ≤ 9223372036854775807 := h _ (List.getElem_mem hk)

end Go.Proofs.YtgehjkcjpbdoaaaDoor
