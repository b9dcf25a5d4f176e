/-
  Rows of bytes onto which is put: what such a row is, what an append leaves as it was.
-/
import Derived.Test.YtjapdbegfanfiaaGreatDoorB6
import Derived.Test.YtjapdbegfanfiaaGreatDoorPFF
import Derived.Laws.OwnMore
import Derived.Test.YtjapdbegfanfiaaGreatDoorGrowG
namespace Go.Proofs.YtjapdbegfanfiaaGreatDoor
open Go.RowKit

/-- All old blocks but the row's own are as they were; the row lies where it lay, or in a new block. -/
structure Ext (w : World) (u : Value) (w' : World) (v : Value) : Prop where
  g : w.grownBy w' u.ownBlock
  o : v.ownBlock = u.ownBlock ∨ ∀ g, v.ownBlock = some g → w.heap.size ≤ g
theorem Ext.refl (w : World) (u : Value) : Ext w u w u := ⟨World.grownBy.refl _ _, Or.inl rfl⟩
theorem Ext.below {w w' : World} (u : Value) (hb : Below w.heap.size w w') : Ext w u w' u := ⟨⟨hb.os, hb.tape, hb.output, hb.size, fun k hk _ => hb.block k hk⟩, Or.inl rfl⟩
theorem Ext.trans {w w1 w2 : World} {u v x : Value} (h : Ext w u w1 v) (k : Ext w1 v w2 x) : Ext w u w2 x := by
  refine ⟨⟨k.g.os.trans h.g.os, k.g.tape.trans h.g.tape, k.g.output.trans h.g.output, Nat.le_trans h.g.size k.g.size, fun i hi hne => ?_⟩, ?_⟩
  · refine (k.g.block i (Nat.lt_of_lt_of_le hi h.g.size) ?_).trans (h.g.block i hi hne)
    rcases h.o with h1 | h1
    · rw [h1]; exact hne
    · intro e
      have := h1 i e.symm
      omega
  · rcases k.o with h2 | h2
    · rcases h.o with h1 | h1
      · exact Or.inl (h2.trans h1)
      · exact Or.inr fun g hg => h1 g (by rw [← h2]; exact hg)
    · exact Or.inr fun g hg => Nat.le_trans h.g.size (h2 g hg)
theorem Ext.blk {w w' : World} {u v : Value} (h : Ext w u w' v) {k : Nat} {cs : Array Value} {t : TypeId} (hk : Blk w k cs t) (hne : u.ownBlock ≠ some k) : Blk w' k cs t := (h.g.block k hk.lt (fun e => hne e.symm)).trans hk
theorem Ext.low {w w' : World} {u v : Value} {N : Nat} (h : Ext w u w' v) (hu : ∀ g, u.ownBlock = some g → N ≤ g) (hN : N ≤ w.heap.size) : Below N w w' :=
  ⟨h.g.os, h.g.tape, h.g.output, h.g.size, fun k hk => h.g.block k (by omega) (fun e => by have := hu k e.symm; omega)⟩
theorem OwnB.ge {N : Nat} {w : World} {v : Value} {l : List Int} (h : OwnB N w v l) : ∀ g, v.ownBlock = some g → N ≤ g := own8_ge h
theorem OwnB.ne {N : Nat} {w : World} {v : Value} {l : List Int} (h : OwnB N w v l) {k : Nat} {cs : Array Value} {t : TypeId} (hk : Blk w k cs t) (ht : 5 ≠ t) : v.ownBlock ≠ some k := own_ne_blk h hk ht
theorem add_at (x o j : Nat) : (⟨x, o, none⟩ : Addr).add j = ⟨x, o + j, none⟩ := by
  unfold Addr.add
  split
  · rename_i h; rw [h]; rfl
  · rfl
/-- What is read of a row of bytes, its first n of them being m. -/
theorem u8_src {w : World} {v : Value} {m : List Int} (h : U8s w v m) (hm : m ≠ []) : ∃ ad c, v = .slice (some ad) m.length c ∧ ∀ j u, (m.map (Value.int .u8))[j]? = some u → w.cell? (ad.add j) = some u := by
  obtain ⟨x, ⟨h0, -⟩ | ⟨hl, o, c, -, -, rfl, -, hc⟩⟩ := h
  · exact absurd h0 hm
  · refine ⟨_, c, rfl, fun j u hj => ?_⟩
    obtain ⟨y, hy, rfl⟩ : ∃ y, m[j]? = some y ∧ .int .u8 y = u := by simpa using hj
    obtain ⟨hlt, rfl⟩ := List.getElem?_eq_some_iff.1 hy
    rw [add_at]
    exact hc j hlt
/-- A row of bytes that is owned, or full. -/
def BufV (N : Nat) (w : World) (v : Value) (l : List Int) : Prop :=
  OwnB N w v l ∨ (l ≠ [] ∧ ∃ g, v = .slice (some ⟨g, 0, none⟩) l.length l.length ∧ N ≤ g ∧ U8at w v l g)
theorem BufV.u8s {N : Nat} {w : World} {v : Value} {l : List Int} (h : BufV N w v l) (hl : l.length ≤ 9223372036854775807) : U8s w v l := by
  rcases h with h | ⟨_, g, _, _, h⟩
  · exact h.u8s hl
  · exact ⟨g, h⟩
theorem BufV.shape {N : Nat} {w : World} {v : Value} {l : List Int} (h : BufV N w v l) : ∃ q c, v = .slice q l.length c := by
  rcases h with h | ⟨_, g, rfl, _, _⟩
  · exact h.shape
  · exact ⟨_, _, rfl⟩
theorem BufV.ge {N : Nat} {w : World} {v : Value} {l : List Int} (h : BufV N w v l) : ∀ g, v.ownBlock = some g → N ≤ g := by
  rcases h with h | ⟨_, g, rfl, hg, _⟩
  · exact h.ge
  · intro g' e; simp [Value.ownBlock] at e; omega
theorem BufV.below {N : Nat} {w w' : World} {v : Value} {l : List Int} (h : BufV N w v l) (hb : Below w.heap.size w w') : BufV N w' v l := by
  rcases h with h | ⟨h0, g, e, hg, h⟩
  · exact Or.inl (h.below hb)
  · exact Or.inr ⟨h0, g, e, hg, h.below hb⟩
set_option maxRecDepth 100000 in
set_option maxHeartbeats 4000000 in
theorem BufV.app {N : Nat} {w : World} {u v : Value} {l m : List Int} (h : BufV N w u l) (hN : N ≤ w.heap.size) (hv : U8s w v m) (hm : m ≠ []) (hs : l.length + m.length ≤ 1000000000) :
    ∃ v' w', (Builtin.append_ #[22, 22] 22 #[u, v]).run Tryz.prog w = .ok v' w' ∧ OwnB N w' v' (l ++ m) ∧ Ext w u w' v' := by
  obtain ⟨i0, hi, hz0, hz1, hz2⟩ := info_parts info8
  have ht : Tryz.prog.underlying 22 = some (.slice 5) := Tryz.underlying22
  obtain ⟨ad, c, rfl, hc⟩ := u8_src hv hm
  have h1 : ∀ u ∈ m.map (Value.int .u8), u.oneCell' = true := by intro u hu; obtain ⟨x, _, rfl⟩ := List.mem_map.1 hu; rfl
  -- the arm that makes a new row
  have grow : ∀ (b : Addr) (cap : Nat), u = .slice (some b) l.length cap → (∀ j x, (l.map (Value.int .u8))[j]? = some x → w.cell? (b.add j) = some x) → cap < l.length + m.length →
      ∃ v' w', (Builtin.append_ #[22, 22] 22 #[u, .slice (some ad) m.length c]).run Tryz.prog w = .ok v' w' ∧ OwnB N w' v' (l ++ m) ∧ Ext w u w' v' := by
    rintro b cap rfl hb hcap
    obtain ⟨v', w', hr, ho, hg⟩ := run_append_arg_grows (P := Tryz.prog) w 22 22 5 i0 (.int .u8 0) 1 1 ht hi hz0 hz1 hz2 rfl (by decide) b l.length cap (l.map (Value.int .u8)) (by simp) hb ad m.length c (m.map (Value.int .u8)) (by simp) hc hcap (by simp [maxLen]; omega) (by omega)
    refine ⟨v', w', hr, ?_, ⟨⟨hg.os, hg.tape, hg.output, hg.size, fun k hk _ => hg.block k hk (by simp)⟩, Or.inr (own8_ge ho)⟩⟩
    unfold OwnB
    rw [List.length_append, List.map_append]
    refine ⟨ho.1, ?_⟩
    rcases ho.2 with h0 | ⟨g, cp, cur, e, hg', h2⟩
    · exact Or.inl h0
    · exact Or.inr ⟨g, cp, cur, e, by omega, h2⟩
  rcases h with h | ⟨h0, g, rfl, hg, h⟩
  · rcases h.2 with ⟨rfl, e0⟩ | ⟨g, cap, cur, rfl, hg, hgg, hnc, hcm, hcs, htk⟩
    · -- nothing as yet
      have hl0 : l = [] := List.length_eq_zero_iff.1 e0
      subst hl0
      obtain ⟨v', w', hr, ho, hgr, -⟩ := run_append_own (P := Tryz.prog) w w.heap.size 22 22 5 i0 (.int .u8 0) 1 1 ht hi hz0 hz1 hz2 rfl (by decide) (.slice none 0 0) 0 [] (World.ownsRow_nil _ _ _ _) ad m.length c (m.map (Value.int .u8)) (by simp) hc h1 (by simp [maxLen]; simp at hs; omega) (by simp at hs; omega) (Nat.le_refl _)
      rw [Nat.zero_add] at ho
      refine ⟨v', w', hr, ?_, ⟨hgr, Or.inr (own8_ge ho)⟩⟩
      refine ⟨ho.1, ?_⟩
      rcases ho.2 with h0 | ⟨g, cp, cur, e, hg', h2⟩
      · exact Or.inl h0
      · exact Or.inr ⟨g, cp, cur, e, by omega, h2⟩
    · by_cases hroom : l.length + m.length ≤ cap
      · obtain ⟨w', hr, ho, hgr⟩ := run_append_fits (P := Tryz.prog) w N 22 22 5 i0 1 ht hi hz1 g l.length cap (l.map (Value.int .u8)) h ad m.length c (m.map (Value.int .u8)) (by simp) hc h1 hroom
        refine ⟨_, w', hr, ?_, ⟨hgr, Or.inl rfl⟩⟩
        unfold OwnB
        rw [List.length_append, List.map_append]
        exact ho
      · refine grow ⟨g, 0, none⟩ cap rfl (fun j x hj => ?_) (by omega)
        have hjl : j < l.length := by have := (List.getElem?_eq_some_iff.1 hj).1; simpa using this
        rw [add_at, Nat.zero_add, h.cellAt j (by omega)]
        exact hj
  · refine grow ⟨g, 0, none⟩ l.length rfl (fun j x hj => ?_) (by have := List.length_pos_iff.2 hm; omega)
    rcases h with ⟨h1, -⟩ | ⟨_, o, c', _, _, e, _, hcc⟩
    · exact absurd h1 h0
    · injection e with e1 e2 e3
      injection e1 with e1
      injection e1 with _ e1
      subst e1
      obtain ⟨y, hy, rfl⟩ : ∃ y, l[j]? = some y ∧ .int .u8 y = x := by simpa using hj
      obtain ⟨hlt, rfl⟩ := List.getElem?_eq_some_iff.1 hy
      rw [add_at]
      exact hcc j hlt
theorem enc_ne (v : Int) : enc v ≠ [] := fun h => by have := enc_pos v; rw [h] at this; simp at this

end Go.Proofs.YtjapdbegfanfiaaGreatDoor

/-
  Appends one behind the other, in a region that draws its order: the row onto which is put is the ghost.
-/
namespace Go.Proofs.YtjapdbegfanfiaaGreatDoor.GG
open Go.RowKit

/-- How many have been put, and what the row is. -/
abbrev Gh := Nat × Value
def RlC (s : Gh) (w : World) (s' : Gh) (w' : World) : Prop := s.1 ≤ s'.1 ∧ (s.1 = s'.1 → s.2 = s'.2) ∧ Ext w s.2 w' s'.2
theorem RlC.refl (s : Gh) (w : World) : RlC s w s w := ⟨Nat.le_refl _, fun _ => rfl, Ext.refl _ _⟩
/-- v is the row behind i of them. -/
def CF (i : Nat) (v : Value) (s : Gh) (_ : World) : Prop := i ≤ s.1 ∧ (s.1 = i → s.2 = v)
theorem CF.st {i : Nat} : ∀ v s w s' w', CF i v s w → RlC s w s' w' → CF i v s' w' := fun v s w s' w' h hr => by
  obtain ⟨h1, h2⟩ := h
  obtain ⟨r1, r2, -⟩ := hr
  exact ⟨by omega, fun e => by rw [← r2 (by omega)]; exact h2 (by omega)⟩
/-- What stays where the row is put onto. -/
theorem Ext.apart {w w' : World} {u v : Value} (h : Ext w u w' v) {x : Nat} (hx : x < w.heap.size) (hne : u.ownBlock ≠ some x) : w'.heap[x]? = w.heap[x]? ∧ x < w'.heap.size ∧ v.ownBlock ≠ some x := by
  refine ⟨h.g.block x hx (fun e => hne e.symm), Nat.lt_of_lt_of_le hx h.g.size, ?_⟩
  rcases h.o with h1 | h1
  · rw [h1]; exact hne
  · intro e
    have := h1 x e
    omega
theorem U8at.same {w w' : World} {v : Value} {m : List Int} {x : Nat} (h : U8at w v m x) (hb : w'.heap[x]? = w.heap[x]?) (hs : w.heap.size ≤ w'.heap.size) : U8at w' v m x := by
  rcases h with h | ⟨h1, o, c, h2, h3, e, hlt, hc⟩
  · exact Or.inl h
  · exact Or.inr ⟨h1, o, c, h2, h3, e, Nat.lt_of_lt_of_le hlt hs, fun i hi => (World.cell?_of_block (a := ⟨x, o + i, none⟩) hb).trans (hc i hi)⟩
/-- v is a row of bytes that is still to be put, the (j + 1)-th. -/
def UF (j : Nat) (m : List Int) (v : Value) (s : Gh) (w : World) : Prop := s.1 ≤ j → ∃ x, U8at w v m x ∧ x < w.heap.size ∧ s.2.ownBlock ≠ some x
theorem UF.st {j : Nat} {m : List Int} : ∀ v s w s' w', UF j m v s w → RlC s w s' w' → UF j m v s' w' := fun v s w s' w' h hr hj => by
  obtain ⟨r1, -, r3⟩ := hr
  obtain ⟨x, h1, h2, h3⟩ := h (by omega)
  obtain ⟨k1, k2, k3⟩ := Ext.apart r3 h2 h3
  exact ⟨x, U8at.same h1 k1 r3.g.size, k2, k3⟩
/-- v is a literal that is still to be looked at. -/
def BF (j : Nat) (cs : Array Value) (t : TypeId) (n : Nat) (v : Value) (s : Gh) (w : World) : Prop := s.1 ≤ j → ∃ x, v = .slice (some ⟨x, 0, none⟩) n n ∧ Blk w x cs t ∧ s.2.ownBlock ≠ some x
theorem BF.st {j n : Nat} {cs : Array Value} {t : TypeId} : ∀ v s w s' w', BF j cs t n v s w → RlC s w s' w' → BF j cs t n v s' w' := fun v s w s' w' h hr hj => by
  obtain ⟨r1, -, r3⟩ := hr
  obtain ⟨x, h1, h2, h3⟩ := h (by omega)
  obtain ⟨k1, k2, k3⟩ := Ext.apart r3 h2.lt h3
  exact ⟨x, h1, k1.trans h2, k3⟩
/-- What holds amidst: al the places of those that put, ls what the row holds behind each, kb a block that stays. -/
structure CS (al : List Nat) (ls : Nat → List Int) (N : Nat) (w0 : World) (u0 : Value) (kb : Nat) (cs : Array Value) (T : TypeId) (dn : Nat → Bool) (s : Gh) (w : World) : Prop where
  lim : ∀ (j a : Nat), al[j]? = some a → dn a = false → s.1 ≤ j
  top : s.1 ≤ al.length
  zero : s.1 = 0 → s.2 = u0
  own : OwnB N w s.2 (ls s.1)
  ext : Ext w0 u0 w s.2
  blk : Blk w kb cs T
section
variable {al : List Nat} {ls : Nat → List Int} {N : Nat} {w0 : World} {u0 : Value} {kb : Nat} {cs : Array Value} {T : TypeId} {dn : Nat → Bool} {s : Gh} {w : World}
theorem CS.start {l : List Int} (h0 : l = ls 0) (h : OwnB N w u0 l) (hk : Blk w kb cs T) : CS al ls N w u0 kb cs T (fun _ => false) (0, u0) w.drew :=
  ⟨fun _ _ _ _ => Nat.zero_le _, Nat.zero_le _, fun _ => rfl, by show OwnB N w u0 (ls 0); rw [← h0]; exact h, Ext.below _ (Below.refl _ _).drew, hk⟩
theorem done_false {i a : Nat} (h : doneG dn i a = false) : dn a = false ∧ a ≠ i := by
  unfold doneG at h
  by_cases e : a = i
  · rw [if_pos e] at h; cases h
  · rw [if_neg e] at h; exact ⟨h, e⟩
theorem CS.on (h : CS al ls N w0 u0 kb cs T dn s w) (i : Nat) : CS al ls N w0 u0 kb cs T (doneG dn i) s w := ⟨fun j a ha hd => h.lim j a ha (done_false hd).1, h.top, h.zero, h.own, h.ext, h.blk⟩
theorem CS.still (i : Nat) : Still (CS al ls N w0 u0 kb cs T) RlC i := ⟨fun _ _ _ h => h.on i, RlC.refl⟩
theorem CS.lt (h : CS al ls N w0 u0 kb cs T dn s w) : ∀ g, s.2.ownBlock = some g → g < w.heap.size := by
  intro g hg
  rcases h.own.2 with ⟨e, -⟩ | ⟨g', cap, cur, e, -, hgg, -⟩
  · rw [e] at hg; cases hg
  · rw [e] at hg
    simp only [Value.ownBlock, Option.some.injEq] at hg
    subst hg
    exact (Array.getElem?_eq_some_iff.1 hgg).1
theorem OwnB.kept {w' : World} {v : Value} {l : List Int} (h : OwnB N w v l) (hb : Below w.heap.size w w') : OwnB N w' v l := own_below8 h hb
theorem CS.grown {w' : World} (h : CS al ls N w0 u0 kb cs T dn s w) (hb : Below w.heap.size w w') (i : Nat) : CS al ls N w0 u0 kb cs T (doneG dn i) s w' ∧ RlC s w s w' ∧ w.heap.size ≤ w'.heap.size :=
  ⟨⟨fun j a ha hd => h.lim j a ha (done_false hd).1, h.top, h.zero, OwnB.kept h.own hb, h.ext.trans (Ext.below _ hb), h.blk.keep hb⟩, ⟨Nat.le_refl _, fun _ => rfl, Ext.below _ hb⟩, hb.size⟩
/-- A call that tells bytes. -/
theorem CS.u {ev : Ending} {w' : World} {m : List Int} (h : CS al ls N w0 u0 kb cs T dn s w) (hc : RowPost8 m w ev w') (hm : m ≠ []) (i j : Nat) :
    ∃ v s', ev = .returned v ∧ UF j m v s' w' ∧ CS al ls N w0 u0 kb cs T (doneG dn i) s' w' ∧ RlC s w s' w' ∧ w.heap.size ≤ w'.heap.size := by
  obtain ⟨v, x, rfl, h1, h2, hb⟩ := hc
  have hx : w.heap.size ≤ x := h2.resolve_left hm
  refine ⟨v, s, rfl, fun _ => ⟨x, h1, ?_, fun e => by have := h.lt x e; omega⟩, h.grown hb i⟩
  rcases h1 with ⟨h0, -⟩ | ⟨_, _, _, _, _, _, hlt, _⟩
  · exact absurd h0 hm
  · exact hlt
/-- A literal. -/
theorem CS.lit {ds : Array Value} {t : TypeId} (h : CS al ls N w0 u0 kb cs T dn s w) (n i j : Nat) :
    BF j ds t n (.slice (some ⟨w.heap.size, 0, none⟩) n n) s (w.alloc (.cells ds t)) ∧ CS al ls N w0 u0 kb cs T (doneG dn i) s (w.alloc (.cells ds t)) ∧ RlC s w s (w.alloc (.cells ds t)) ∧ w.heap.size ≤ (w.alloc (.cells ds t)).heap.size :=
  ⟨fun _ => ⟨_, rfl, Blk.new _ _ _ _ rfl, fun e => by have := h.lt _ e; omega⟩, h.grown (below_new8 _) i⟩
/-- What is put: by an append or by a call. -/
theorem CS.put {w' : World} {u v' : Value} {m : List Int} {i j : Nat} (h : CS al ls N w0 u0 kb cs T dn s w) (hT : 5 ≠ T) (ha : al[j]? = some i) (hd : dn i = false) (hu : CF j u s w) (hl : ls j ++ m = ls (j + 1)) (ho : OwnB N w' v' (ls j ++ m)) (he : Ext w u w' v') :
    CF (j + 1) v' (j + 1, v') w' ∧ CS al ls N w0 u0 kb cs T (doneG dn i) (j + 1, v') w' ∧ RlC s w (j + 1, v') w' ∧ w.heap.size ≤ w'.heap.size := by
  have h1 := h.lim j i ha hd
  have h2 : s.1 = j := by have := hu.1; omega
  have h3 := hu.2 h2
  have hj : j < al.length := (List.getElem?_eq_some_iff.1 ha).1
  rw [← h3] at he
  refine ⟨⟨Nat.le_refl _, fun _ => rfl⟩, ⟨fun j' a ha' hd' => ?_, by show j + 1 ≤ al.length; omega, fun e => by simp at e, by show OwnB N w' v' (ls (j + 1)); rw [← hl]; exact ho, h.ext.trans he, he.blk h.blk (OwnB.ne h.own h.blk hT)⟩, ⟨by show s.1 ≤ j + 1; omega, fun e => by have : s.1 = j + 1 := e; omega, he⟩, he.g.size⟩
  obtain ⟨d1, d2⟩ := done_false hd'
  have := h.lim j' a ha' d1
  have hne : j' ≠ j := fun e => by subst e; rw [ha] at ha'; exact d2 (Option.some.inj ha').symm
  show j + 1 ≤ j'
  omega
theorem CS.app {u v : Value} {m : List Int} {i j : Nat} (h : CS al ls N w0 u0 kb cs T dn s w) (hN : N ≤ w0.heap.size) (hT : 5 ≠ T) (ha : al[j]? = some i) (hd : dn i = false) (hu : CF j u s w) (hv : UF j m v s w) (hm : m ≠ []) (hl : ls j ++ m = ls (j + 1)) (hs : (ls j).length + m.length ≤ 1000000000) :
    ∃ v' s' w', (Builtin.append_ #[22, 22] 22 #[u, v]).run Tryz.prog w = .ok v' w' ∧ CF (j + 1) v' s' w' ∧ CS al ls N w0 u0 kb cs T (doneG dn i) s' w' ∧ RlC s w s' w' ∧ w.heap.size ≤ w'.heap.size := by
  have h1 := h.lim j i ha hd
  have h2 : s.1 = j := by have := hu.1; omega
  have h3 := hu.2 h2
  obtain ⟨x, hx, -, -⟩ := hv (by omega)
  have ho := h.own
  rw [h2, h3] at ho
  obtain ⟨v', w', hr, ho', he⟩ := BufV.app (Or.inl ho) (by have := h.ext.g.size; omega) ⟨x, hx⟩ hm hs
  exact ⟨v', (j + 1, v'), w', hr, h.put hT ha hd hu hl ho' he⟩
theorem CS.first (h : CS al ls N w0 u0 kb cs T dn s w) : CF 0 u0 s w := ⟨Nat.zero_le _, h.zero⟩
theorem CS.last {v : Value} {n : Nat} (h : CS al ls N w0 u0 kb cs T dn s w) (hn : al.length = n) (hv : CF n v s w) : OwnB N w v (ls n) ∧ Ext w0 u0 w v := by
  have h1 := h.top
  have h2 : s.1 = n := by have := hv.1; omega
  have h3 := hv.2 h2
  have h4 := h.own
  have h5 := h.ext
  rw [h2, h3] at h4
  rw [h3] at h5
  exact ⟨h4, h5⟩
end
theorem exec_append {P : Program} {o : Oper} {ρ : Operand → Value} {w w' : World} (s x : Operand) (t : TypeId) (ho : o.op = .call { callee := .builtin .append, args := #[s, x], argTypes := #[t, t] })
    {v sv v' : Value} (hs : ρ s = v) (hx : ρ x = sv) (hr : (Builtin.append_ #[t, t] o.type #[v, sv]).run P w = .ok v' w') : (execOp ρ o).run P w = .ok (.value v') w' := by
  unfold execOp
  simp only [ho, resolve, invoke, builtin, Sem.run_bind, Sem.run_pure, Result.andThen_ok, List.map_toArray, List.map_cons, List.map_nil, hs, hx, hr]

end Go.Proofs.YtjapdbegfanfiaaGreatDoor.GG

/-
  The program's file.Encode: numbers, costs, counts put to bytes.
-/
namespace Go.Proofs.YtjapdbegfanfiaaGreatDoor
open Go.RowKit

/-- What an adding call answers. -/
def AddPost (N : Nat) (w : World) (u : Value) (r : List Int) (ev : Ending) (w' : World) : Prop := ∃ v', ev = .returned v' ∧ OwnB N w' v' r ∧ Ext w u w' v'
theorem BufV.kept {N : Nat} {w w' : World} {v : Value} {l : List Int} (h : BufV N w v l) (hb : Below w.heap.size w w') : BufV N w' v l := by
  rcases h with h | ⟨h0, g, e, hg, h⟩
  · exact Or.inl (own_below8 h hb)
  · exact Or.inr ⟨h0, g, e, hg, h.below hb⟩
theorem wrap_u {V : Int} (h0 : 0 ≤ V) (h1 : V ≤ 9223372036854775807) : IntKind.u64.wrap V = V := by simp [IntKind.wrap, IntKind.bits, IntKind.signed]; omega
set_option maxRecDepth 100000 in
set_option maxHeartbeats 4000000 in
theorem vAddPlain {N : Nat} {w : World} {u : Value} {l m : List Int} {x : Nat} (h : BufV N w u l) (hN : N ≤ w.heap.size) (hx : Blk w x (m.map (Value.int .i64)).toArray 3) (hux : u.ownBlock ≠ some x) (hm : m ≠ [])
    (hin : ∀ y ∈ m, 0 ≤ y ∧ y ≤ 9223372036854775807) (hml : m.length ≤ 100) (hs : l.length ≤ 900000000) : Calls Tryz.prog 80 #[u, .slice (some ⟨x, 0, none⟩) m.length m.length] w (AddPost N w u (l ++ encs m)) := by
  have hxlt := hx.lt
  have hlen : ∀ k, (l ++ encs (m.take k)).length ≤ 900001000 := fun k => by
    have h1 := encs_len (m.take k)
    have h2 : (m.take k).length ≤ m.length := by rw [List.length_take]; omega
    rw [List.length_append]
    omega
  have HX := Lib.hid hx
  have HLEN := Lib.hid hlen
  have H0 : Hid (BufV N w u (l ++ encs (m.take 0)) ∧ (0 < 0 → OwnB N w u (l ++ encs (m.take 0))) ∧ Ext w u w u) := Lib.hid ⟨by simpa [encs] using h, fun h => by omega, Ext.refl _ _⟩
  have hm0 : 0 < m.length := List.length_pos_iff.2 hm
  clear h hx hlen hs
  go_enter Tryz.func80, Tryz.ntmps80
  go_wp2_with fail
  go_loopw [0, 9] (fun b i wr => ∃ (k : Nat), k ≤ m.length ∧ i = .int .i64 k ∧ Hid (BufV N wr b (l ++ encs (m.take k)) ∧ (0 < k → OwnB N wr b (l ++ encs (m.take k))) ∧ Ext w u wr b)) (fun _ i _ => m.length - (intOf i).toNat)
  case atStart => exact ⟨0, Nat.zero_le _, rfl, H0⟩
  case round =>
    clear H0
    obtain ⟨k, hk, rfl, HR⟩ := hrel
    by_cases hk1 : k < m.length
    · have hki : (k : Int) < m.length := by omega
      obtain ⟨Y, hY⟩ : ∃ Y, m[k] = Y := ⟨_, rfl⟩
      have hcell := (HR.out.2.2.blk HX.out hux).cell k (v := .int .i64 Y) (by simp [hk1, hY])
      have hYin := hin m[k] (List.getElem_mem hk1)
      rw [hY] at hYin
      have hwu : IntKind.u64.wrap Y = Y := wrap_u hYin.1 hYin.2
      have hst : encs (m.take k) ++ enc Y = encs (m.take (k + 1)) := by rw [← hY]; exact encs_step m k hk1
      have HST := Lib.hid hst
      have HYI := Lib.hid hYin
      clear hY hst hYin
      go_wp2_with fail
      refine (wuint_any Y _ HYI.out.1 (by have := HYI.out.2; omega)).mono ?_
      rintro ev w1 ⟨v, z, rfl, hv, -, hb⟩
      have hsz : N ≤ w1.heap.size := by have := HR.out.2.2.g.size; have := hb.size; omega
      have hl1 := HLEN.out k
      have hl2 := enc_len Y
      obtain ⟨v', w2, hrun, ho, he⟩ := BufV.app (HR.out.1.kept hb) hsz ⟨z, hv⟩ (enc_ne Y) (by omega)
      have HRUN := Lib.hid hrun
      rw [List.append_assoc, HST.out] at ho
      have HN : Hid (BufV N w2 v' (l ++ encs (m.take (k + 1))) ∧ (0 < k + 1 → OwnB N w2 v' (l ++ encs (m.take (k + 1)))) ∧ Ext w u w2 v') := Lib.hid ⟨Or.inl ho, fun _ => ho, (HR.out.2.2.trans (Ext.below _ hb)).trans he⟩
      clear hv hb hrun ho he hsz hl1 hl2 hcell HR hwu
      go_wp2_with (at_builtin; refine wpList_append_run rfl _ _ 22 rfl _ _ _ rfl rfl HRUN.out ?_)
      go_wp2_with fail
      go_roundw
      case rel => exact ⟨k + 1, by omega, by go_num, HN⟩
      case measure => simp [intOf]; omega
    · obtain rfl : k = m.length := by omega
      have HF : Hid (OwnB N wr u0 (l ++ encs m) ∧ Ext w u wr u0) := by
        have h1 := HR.out.2.1 hm0
        rw [List.take_length] at h1
        exact Lib.hid ⟨h1, HR.out.2.2⟩
      clear HR
      go_wp2_with fail
      go_ret
      exact ⟨_, rfl, HF.out⟩
set_option maxRecDepth 100000 in
set_option maxHeartbeats 4000000 in
theorem vAddCost {N : Nat} {w : World} {u : Value} {l : List Int} {c : Int} (h : OwnB N w u l) (hN : N ≤ w.heap.size) (hc : wgt c = true) (hs : l.length ≤ 900000000) : Calls Tryz.prog 79 #[u, .int .i64 c] w (AddPost N w u (l ++ enc (pz c))) := by
  have HO := Lib.hid h
  have hp := pz_in hc
  have hp2 := enc_len (pz c)
  have fin : ∀ (ev : Ending) (w1 : World), RowPost8 (enc (pz c)) w ev w1 → ∃ v, ev = .returned v ∧ ∃ v' w2, (Builtin.append_ #[22, 22] 22 #[u, v]).run Tryz.prog w1 = .ok v' w2 ∧ AddPost N w u (l ++ enc (pz c)) (.returned v') w2 := by
    rintro ev w1 ⟨v, z, rfl, hv, -, hb⟩
    obtain ⟨v', w2, hrun, ho, he⟩ := BufV.app (Or.inl (own_below8 HO.out hb)) (by have := hb.size; omega) ⟨z, hv⟩ (enc_ne _) (by omega)
    exact ⟨v, rfl, v', w2, hrun, v', rfl, ho, (Ext.below _ hb).trans he⟩
  have FIN := Lib.hid fin
  have HP := Lib.hid hp
  clear h hp hp2 fin
  by_cases hI : c = 1152921504606846976
  · have hb : (c == 1152921504606846976) = true := by simp [hI]
    have hz : pz c = 0 := if_pos hI
    have HZ := Lib.hid hz
    clear hI hz
    go_enter Tryz.func79, Tryz.ntmps79
    go_wp2_with fail
    refine (wuint_any 0 _ (by omega) (by omega)).mono ?_
    intro ev w1 hr
    obtain ⟨v, rfl, v', w2, hrun, ha⟩ := FIN.out ev w1 (by rw [HZ.out]; exact hr)
    have HRUN := Lib.hid hrun
    have HA := Lib.hid ha
    clear hr hrun ha
    go_wp2_with (at_builtin; refine wpList_append_run rfl _ _ 22 rfl _ _ _ rfl rfl HRUN.out ?_)
    go_wp2_with fail
    go_ret
    exact HA.out
  · have hb : (c == 1152921504606846976) = false := by simpa using hI
    have hz : pz c = c + 1 := if_neg hI
    have hc0 : 0 ≤ c ∧ c ≤ 2147483648 := by unfold wgt at hc; simp at hc; omega
    have hw1 : IntKind.u64.wrap c = c := wrap_u hc0.1 (by omega)
    have hw2 : IntKind.u64.wrap (c + 1) = c + 1 := wrap_u (by omega) (by omega)
    have HZ := Lib.hid hz
    have HC := Lib.hid hc0
    clear hI hz hc0 hc
    go_enter Tryz.func79, Tryz.ntmps79
    go_wp2_with fail
    refine (wuint_any (c + 1) _ (by have := HC.out.1; omega) (by have := HC.out.2; omega)).mono ?_
    intro ev w1 hr
    obtain ⟨v, rfl, v', w2, hrun, ha⟩ := FIN.out ev w1 (by rw [HZ.out]; exact hr)
    have HRUN := Lib.hid hrun
    have HA := Lib.hid ha
    clear hr hrun ha
    go_wp2_with (at_builtin; refine wpList_append_run rfl _ _ 22 rfl _ _ _ rfl rfl HRUN.out ?_)
    go_wp2_with fail
    go_ret
    exact HA.out
set_option maxRecDepth 100000 in
set_option maxHeartbeats 4000000 in
theorem vAddCounts {N : Nat} {w : World} {u : Value} {l : List Int} {qv qa qt : Option Addr} {nv na nt cv ca ct : Nat} (h : BufV N w u l) (hu : ∀ g, u.ownBlock = some g → g < w.heap.size) (hN : N ≤ w.heap.size) (hs : l.length ≤ 900000000) (h1 : nv ≤ 1000000) (h2 : na ≤ 1000000) (h3 : nt ≤ 1000000) :
    Calls Tryz.prog 41 #[u, .agg #[.slice qv nv cv, .slice qa na ca, .slice qt nt ct]] w (AddPost N w u (l ++ encs [(nt : Int), (nv : Int), (na : Int)])) := by
  obtain ⟨W, hW⟩ := named ((w.alloc (.cells #[.slice qv nv cv, .slice qa na ca, .slice qt nt ct] 28)).alloc (.cells #[.int .i64 (nt : Int), .int .i64 (nv : Int), .int .i64 (na : Int)] 3))
  have hbw : Below w.heap.size w W := by rw [hW]; exact (below_new8 _).trans ((below_new8 _).mono (by simp))
  have hB : Hid (BufV N W u l) := Lib.hid (h.kept hbw)
  have hK : Hid (Blk W (w.heap.size + 1) ([(nt : Int), (nv : Int), (na : Int)].map (Value.int .i64)).toArray 3) := by rw [hW]; exact Lib.hid (Blk.new _ _ _ _ (by simp))
  have hne : u.ownBlock ≠ some (w.heap.size + 1) := fun e => by have := hu _ e; omega
  have HE := Lib.hid (Ext.below u hbw)
  have HS := Lib.hid hbw.size
  have HNE := Lib.hid hne
  clear h hbw hu hne
  go_enter Tryz.func41, Tryz.ntmps41
  go_wp2_with fail
  rw [← hW]
  refine (vAddPlain (m := [(nt : Int), (nv : Int), (na : Int)]) hB.out (by have := HS.out; omega) hK.out HNE.out (by simp) (by intro y hy; simp at hy; omega) (by simp) hs).mono ?_
  rintro ev w1 ⟨v', rfl, ho, he⟩
  have HF := Lib.hid (show AddPost N w u (l ++ encs [(nt : Int), (nv : Int), (na : Int)]) (.returned v') w1 from ⟨v', rfl, ho, HE.out.trans he⟩)
  clear ho he hW hB hK HE
  go_wp2_with fail
  go_ret
  exact HF.out

end Go.Proofs.YtjapdbegfanfiaaGreatDoor

/-
  The program's file.Encode: the vertices put to bytes.
-/
namespace Go.Proofs.YtjapdbegfanfiaaGreatDoor
open Go.RowKit

theorem Ext.set {w w' : World} {u v : Value} (h : Ext w u w' v) {p : Nat} (hp : w.heap.size ≤ p) (o : Nat) (x : Value) : Ext w u (w'.setCell ⟨p, o, none⟩ x) v :=
  ⟨⟨h.g.os, h.g.tape, h.g.output, by simpa [World.setCell] using h.g.size, fun k hk hne => (heap_setCell_other w' ⟨p, o, none⟩ k x (by show k ≠ p; omega)).trans (h.g.block k hk hne)⟩, h.o⟩
theorem lastXY_in {L : List Tri} (h : ∀ v ∈ L, VOK v) : (-1048576 ≤ (lastXY L).1 ∧ (lastXY L).1 ≤ 1048576) ∧ -1048576 ≤ (lastXY L).2 ∧ (lastXY L).2 ≤ 1048576 := by
  rcases List.eq_nil_or_concat L with rfl | ⟨r, v, rfl⟩
  · exact ⟨⟨by decide, by decide⟩, by decide, by decide⟩
  · rw [List.concat_eq_append, lastXY_snoc]
    have := h v (by simp)
    exact ⟨this.1, this.2.1⟩
theorem numsV_last (L : List Tri) (v : Tri) : numsV 0 0 (L ++ [v]) = numsV 0 0 L ++ [foldZ (v.1 - (lastXY L).1), foldZ (v.2.1 - (lastXY L).2), v.2.2] := numsV_snoc L 0 0 v
theorem numsV_len : ∀ (l : List Tri) (x y : Int), (numsV x y l).length = 3 * l.length
  | [], _, _ => rfl
  | v :: r, x, y => by rw [numsV, List.length_cons, List.length_cons, List.length_cons, numsV_len r, List.length_cons]; omega

set_option maxRecDepth 100000 in
set_option maxHeartbeats 4000000 in
theorem vAddVerts {N : Nat} {w : World} {u : Value} {l : List Int} {vs : List Tri} {q : Option Addr} {c : Nat} (h : OwnB N w u l) (hN : N ≤ w.heap.size) (ht : ∀ w', Below N w w' → Tris w' (.slice q vs.length c) vs) (hv : ∀ v ∈ vs, VOK v) (hn : vs.length ≤ 4096) (hs : l.length ≤ 100000000) :
    Calls Tryz.prog 39 #[u, .slice q vs.length c] w (AddPost N w u (l ++ encs (numsV 0 0 vs))) := by
  have hlen : ∀ k, (l ++ encs (numsV 0 0 (vs.take k))).length ≤ 200000000 := fun k => by
    have h1 := encs_len (numsV 0 0 (vs.take k))
    have h2 : (vs.take k).length ≤ vs.length := by rw [List.length_take]; omega
    rw [numsV_len] at h1
    rw [List.length_append]
    omega
  have HLEN := Lib.hid hlen
  have HU := Lib.hid h.ge
  have HT := Lib.hid ht
  have HV := Lib.hid hv
  obtain ⟨p, hp⟩ : ∃ p, w.heap.size = p := ⟨_, rfl⟩
  have h0 : Below w.heap.size w (w.alloc (.cells #[.int .i64 0, .int .i64 0, .int .i64 0] 93)) := below_new8 _
  have H0 : Hid (OwnB N (w.alloc (.cells #[.int .i64 0, .int .i64 0, .int .i64 0] 93)) u (l ++ encs (numsV 0 0 (vs.take 0))) ∧ Ext w u (w.alloc (.cells #[.int .i64 0, .int .i64 0, .int .i64 0] 93)) u ∧ Blk (w.alloc (.cells #[.int .i64 0, .int .i64 0, .int .i64 0] 93)) p #[.int .i64 (lastXY (vs.take 0)).1, .int .i64 (lastXY (vs.take 0)).2, .int .i64 0] 93) := Lib.hid ⟨by simpa [encs, numsV] using (show OwnB N _ u l from own_below8 h h0), Ext.below u h0, by simpa [lastXY] using Blk.new w #[.int .i64 0, .int .i64 0, .int .i64 0] 93 p hp⟩
  clear h hlen ht hv h0
  go_enter Tryz.func39, Tryz.ntmps39
  go_wp2_with fail
  go_loopw [0, 10] (fun b i wr => ∃ (k : Nat) (z : Int), k ≤ vs.length ∧ i = .int .i64 k ∧ Hid (OwnB N wr b (l ++ encs (numsV 0 0 (vs.take k))) ∧ Ext w u wr b ∧ Blk wr p #[.int .i64 (lastXY (vs.take k)).1, .int .i64 (lastXY (vs.take k)).2, .int .i64 z] 93)) (fun _ i _ => vs.length - (intOf i).toNat)
  case atStart => exact ⟨0, 0, Nat.zero_le _, rfl, H0⟩
  case round =>
    clear H0
    obtain ⟨k, z, hk, rfl, HR⟩ := hrel
    by_cases hk1 : k < vs.length
    · have hki : (k : Int) < vs.length := by omega
      obtain ⟨bt, ot, hq, x0, x1, x2⟩ := (HT.out wr (HR.out.2.1.low HU.out hN)).at hk1
      subst hq
      have htk : vs.take (k + 1) = vs.take k ++ [vs[k]] := List.take_succ_eq_append_getElem hk1
      have hnv := numsV_last (vs.take k) vs[k]
      rw [← htk] at hnv
      have hxy := lastXY_snoc (vs.take k) vs[k]
      rw [← htk] at hxy
      have hlb := lastXY_in (L := vs.take k) (fun v hv => HV.out v (List.mem_of_mem_take hv))
      have hvk := HV.out vs[k] (List.getElem_mem hk1)
      have hP := HR.out.2.2
      obtain ⟨L, hL⟩ : ∃ L, l ++ encs (numsV 0 0 (vs.take k)) = L := ⟨_, rfl⟩
      have hll := HLEN.out k
      have hO := HR.out.1
      rw [hL] at hll hO
      obtain ⟨ax, hax⟩ : ∃ ax, (lastXY (vs.take k)).1 = ax := ⟨_, rfl⟩
      obtain ⟨ay, hay⟩ : ∃ ay, (lastXY (vs.take k)).2 = ay := ⟨_, rfl⟩
      rw [hax, hay] at hP hlb hnv
      obtain ⟨⟨X, Y, Z⟩, hX⟩ : ∃ t : Tri, vs[k] = t := ⟨_, rfl⟩
      rw [hX] at x0 x1 x2 hnv hxy hvk
      obtain ⟨⟨vx0, vx1⟩, ⟨vy0, vy1⟩, vz0, vz1⟩ := hvk
      obtain ⟨⟨ax0, ax1⟩, ay0, ay1⟩ := hlb
      simp only at x0 x1 x2 hnv hxy vx0 vx1 vy0 vy1 vz0 vz1
      obtain ⟨DX, hDX⟩ : ∃ D, X - ax = D := ⟨_, rfl⟩
      obtain ⟨DY, hDY⟩ : ∃ D, Y - ay = D := ⟨_, rfl⟩
      rw [hDX, hDY] at hnv
      have hend : L ++ enc (foldZ DX) ++ enc (foldZ DY) ++ encs [Z] = l ++ encs (numsV 0 0 (vs.take (k + 1))) := by
        rw [hnv, encs_append, ← List.append_assoc, hL]
        simp [encs]
      have HEND := Lib.hid hend
      have HXY := Lib.hid hxy
      have HE := Lib.hid HR.out.2.1
      have HO := Lib.hid hO
      have HP := Lib.hid hP
      have HDX := Lib.hid hDX
      have HDY := Lib.hid hDY
      have bX : -9223372036854775808 ≤ X - ax ∧ X - ax ≤ 9223372036854775807 := by omega
      have bY : -9223372036854775808 ≤ Y - ay ∧ Y - ay ≤ 9223372036854775807 := by omega
      have hpw : p < wr.heap.size := HP.out.lt
      obtain ⟨G, hG⟩ : ∃ G, wr.heap.size = G := ⟨_, rfl⟩
      have hGp : G ≠ p := by omega
      obtain ⟨W1, hW1⟩ := named (wr.alloc (.cells #[.int .i64 X, .int .i64 Y, .int .i64 Z] 93))
      have hb1 : Below wr.heap.size wr W1 := by rw [hW1]; exact below_new8 _
      have HO1 := Lib.hid (show OwnB N W1 u0 L from own_below8 HO.out hb1)
      have HE1 := Lib.hid (HE.out.trans (Ext.below u0 hb1))
      have HP1 := Lib.hid (HP.out.keep hb1)
      have HG1 : Hid (Blk W1 G #[.int .i64 X, .int .i64 Y, .int .i64 Z] 93) := by rw [hW1]; exact Lib.hid (Blk.new _ _ _ _ hG)
      clear hb1 HR hO hP hnv hxy hend hL hax hay hX hDX hDY htk HO HE HP hpw
      obtain ⟨a0, a1, a2, -, -, -⟩ := HP1.out.o3
      obtain ⟨g0, g1, g2, -, -, -⟩ := HG1.out.o3
      go_upto_region 5 with fail
      rw [← hW1]
      clear x0 x1 x2 hW1 hG
      go_wp2_with fail
      refine (wint_any (X - ax) _ (by omega) (by omega)).mono ?_
      rintro ev w1a ⟨v, zz, rfl, hv, -, hb⟩
      rw [HDX.out] at hv
      have hl2 := enc_len (foldZ DX)
      obtain ⟨v1, w1b, hrun, ho, he⟩ := BufV.app (Or.inl (own_below8 HO1.out hb)) (by have := HE1.out.g.size; have := hb.size; omega) ⟨zz, hv⟩ (enc_ne _) (by omega)
      have HRUN := Lib.hid hrun
      have hep := (Ext.below _ hb).trans he
      have HO2 := Lib.hid ho
      have HE2 := Lib.hid (HE1.out.trans hep)
      have HP2 := Lib.hid (hep.blk HP1.out (HO1.out.ne HP1.out (by decide)))
      have HG2 := Lib.hid (hep.blk HG1.out (HO1.out.ne HG1.out (by decide)))
      clear hv hb hrun ho he hep hl2 a0 a1 a2 g0 g1 g2 HO1 HE1 HP1 HG1
      obtain ⟨a0, a1, a2, -, -, -⟩ := HP2.out.o3
      obtain ⟨g0, g1, g2, -, -, -⟩ := HG2.out.o3
      go_wp2_with (at_builtin; refine wpList_append_run rfl _ _ 22 rfl _ _ _ rfl rfl HRUN.out ?_)
      clear HRUN
      go_wp2_with fail
      refine (wint_any (Y - ay) _ (by omega) (by omega)).mono ?_
      rintro ev w2a ⟨v, zz, rfl, hv, -, hb⟩
      rw [HDY.out] at hv
      have hl2 := enc_len (foldZ DY)
      obtain ⟨v2, w2b, hrun, ho, he⟩ := BufV.app (Or.inl (own_below8 HO2.out hb)) (by have := HE2.out.g.size; have := hb.size; omega) ⟨zz, hv⟩ (enc_ne _) (by have := enc_len (foldZ DX); rw [List.length_append]; omega)
      have HRUN := Lib.hid hrun
      have hep := (Ext.below _ hb).trans he
      have HO3 := Lib.hid ho
      have HE3 := Lib.hid (HE2.out.trans hep)
      have HP3 := Lib.hid (hep.blk HP2.out (HO2.out.ne HP2.out (by decide)))
      have HG3 := Lib.hid (hep.blk HG2.out (HO2.out.ne HG2.out (by decide)))
      clear hv hb hrun ho he hep hl2 a0 a1 a2 g0 g1 g2 HO2 HE2 HP2 HG2
      obtain ⟨a0, a1, a2, -, -, -⟩ := HP3.out.o3
      obtain ⟨g0, g1, g2, -, -, -⟩ := HG3.out.o3
      go_wp2_with (at_builtin; refine wpList_append_run rfl _ _ 22 rfl _ _ _ rfl rfl HRUN.out ?_)
      clear HRUN
      go_wp2_with fail
      obtain ⟨xl, hxl⟩ : ∃ x, w2b.heap.size = x := ⟨_, rfl⟩
      obtain ⟨W3, hW3⟩ := named (w2b.alloc (.cells #[.int .i64 Z] 3))
      have hb3 : Below w2b.heap.size w2b W3 := by rw [hW3]; exact below_new8 _
      have hK : Hid (Blk W3 xl ([Z].map (Value.int .i64)).toArray 3) := by rw [hW3]; exact Lib.hid (Blk.new _ _ _ _ hxl)
      have HB3 := Lib.hid (show OwnB N W3 v2 _ from own_below8 HO3.out hb3)
      have HE3' := Lib.hid (HE3.out.trans (Ext.below v2 hb3))
      have HP3' := Lib.hid (HP3.out.keep hb3)
      have HG3' := Lib.hid (HG3.out.keep hb3)
      rw [← hW3, hxl]
      clear hW3 hxl hb3 a0 a1 a2 g0 g1 g2 HO3 HE3 HP3 HG3
      refine (vAddPlain (m := [Z]) (Or.inl HB3.out) (by have := HE3'.out.g.size; omega) hK.out (HB3.out.ne hK.out (by decide)) (by simp) (by intro y hy; simp at hy; omega) (by simp) (by have := enc_len (foldZ DX); have := enc_len (foldZ DY); rw [List.length_append, List.length_append]; omega)).mono ?_
      rintro ev w4 ⟨v4, rfl, ho, he⟩
      rw [HEND.out] at ho
      have HO4 := Lib.hid ho
      have HE4 := Lib.hid (HE3'.out.trans he)
      have HP4 := Lib.hid (he.blk HP3'.out (HB3.out.ne HP3'.out (by decide)))
      have HG4 := Lib.hid (he.blk HG3'.out (HB3.out.ne HG3'.out (by decide)))
      clear ho he HB3 HE3' HP3' HG3' hK
      obtain ⟨a0, a1, a2, f0, f1, f2⟩ := HP4.out.o3
      obtain ⟨g0, g1, g2, -, -, -⟩ := HG4.out.o3
      go_wp2_with fail
      obtain ⟨W5, hW5⟩ := named (((w4.setCell ⟨p, 0, none⟩ (.int .i64 X)).setCell ⟨p, 1, none⟩ (.int .i64 Y)).setCell ⟨p, 2, none⟩ (.int .i64 Z))
      have HN : Hid (OwnB N W5 v4 (l ++ encs (numsV 0 0 (vs.take (k + 1)))) ∧ Ext w u W5 v4 ∧ Blk W5 p #[.int .i64 (lastXY (vs.take (k + 1))).1, .int .i64 (lastXY (vs.take (k + 1))).2, .int .i64 Z] 93) := by
        have k1 := HP4.out.set 0 (.int .i64 X)
        have k2 := k1.set 1 (.int .i64 Y)
        rw [hW5, HXY.out]
        exact Lib.hid ⟨owns_set (owns_set (owns_set HO4.out HP4.out (by decide) _ _) k1 (by decide) _ _) k2 (by decide) _ _, ((HE4.out.set (by omega) _ _).set (by omega) _ _).set (by omega) _ _, by simpa using k2.set 2 (.int .i64 Z)⟩
      rw [← hW5]
      clear hW5 a0 a1 a2 f0 f1 f2 g0 g1 g2 HO4 HE4 HP4 HG4
      go_roundw
      case rel => exact ⟨k + 1, Z, by omega, by go_num, HN⟩
      case measure => simp [intOf]; omega
    · obtain rfl : k = vs.length := by omega
      have HF : Hid (OwnB N wr u0 (l ++ encs (numsV 0 0 vs)) ∧ Ext w u wr u0) := by
        have h1 := HR.out.1
        rw [List.take_length] at h1
        exact Lib.hid ⟨h1, HR.out.2.1⟩
      clear HR
      go_wp2_with fail
      go_ret
      exact ⟨_, rfl, HF.out⟩

end Go.Proofs.YtjapdbegfanfiaaGreatDoor

/-
  The program's file.Encode: the arcs put to bytes.
-/
namespace Go.Proofs.YtjapdbegfanfiaaGreatDoor
open Go.RowKit

theorem numsA_len : ∀ (l : List Tri), (l.flatMap numsA).length = 3 * l.length
  | [] => rfl
  | v :: r => by rw [List.flatMap_cons, List.length_append, numsA_len r, List.length_cons]; unfold numsA; simp; omega
theorem GG.CS.at {al : List Nat} {ls : Nat → List Int} {N : Nat} {w0 : World} {u0 : Value} {kb : Nat} {cs : Array Value} {T : TypeId} {dn : Nat → Bool} {s : GG.Gh} {w : World} (h : GG.CS al ls N w0 u0 kb cs T dn s w) {i j : Nat} {u : Value} (ha : al[j]? = some i) (hd : dn i = false) (hu : GG.CF j u s w) :
    OwnB N w u (ls j) ∧ s.1 ≤ j ∧ s.2 = u ∧ w0.heap.size ≤ w.heap.size := by
  have h1 := h.lim j i ha hd
  have h2 : s.1 = j := by have := hu.1; omega
  have h3 := hu.2 h2
  have ho := h.own
  rw [h2, h3] at ho
  exact ⟨ho, h1, h3, h.ext.g.size⟩
set_option maxRecDepth 100000 in
set_option maxHeartbeats 4000000 in
theorem vAddArcs {N : Nat} {w : World} {u : Value} {l : List Int} {vs : List Tri} {q : Option Addr} {c : Nat} (h : OwnB N w u l) (hN : N ≤ w.heap.size) (ht : ∀ w', Below N w w' → Tris w' (.slice q vs.length c) vs) (hv : ∀ v ∈ vs, AOK v) (hn : vs.length ≤ 16384) (hs : l.length ≤ 100000000) :
    Calls Tryz.prog 38 #[u, .slice q vs.length c] w (AddPost N w u (l ++ encs (vs.flatMap numsA))) := by
  have hlen : ∀ k, (l ++ encs ((vs.take k).flatMap numsA)).length ≤ 200000000 := fun k => by
    have h1 := encs_len ((vs.take k).flatMap numsA)
    have h2 : (vs.take k).length ≤ vs.length := by rw [List.length_take]; omega
    rw [numsA_len] at h1
    rw [List.length_append]
    omega
  have HLEN := Lib.hid hlen
  have HU := Lib.hid h.ge
  have HT := Lib.hid ht
  have HV := Lib.hid hv
  have H0 : Hid (OwnB N w u (l ++ encs ((vs.take 0).flatMap numsA)) ∧ Ext w u w u) := Lib.hid ⟨by simpa [encs] using h, Ext.refl _ _⟩
  clear h hlen ht hv
  go_enter Tryz.func38, Tryz.ntmps38
  go_wp2_with fail
  go_loopw [0, 9] (fun b i wr => ∃ (k : Nat), k ≤ vs.length ∧ i = .int .i64 k ∧ Hid (OwnB N wr b (l ++ encs ((vs.take k).flatMap numsA)) ∧ Ext w u wr b)) (fun _ i _ => vs.length - (intOf i).toNat)
  case atStart => exact ⟨0, Nat.zero_le _, rfl, H0⟩
  case round =>
    clear H0
    obtain ⟨k, hk, rfl, HR⟩ := hrel
    by_cases hk1 : k < vs.length
    · have hki : (k : Int) < vs.length := by omega
      obtain ⟨bt, ot, hq, x0, x1, x2⟩ := (HT.out wr (HR.out.2.low HU.out hN)).at hk1
      subst hq
      have htk : vs.take (k + 1) = vs.take k ++ [vs[k]] := List.take_succ_eq_append_getElem hk1
      have hvk := HV.out vs[k] (List.getElem_mem hk1)
      obtain ⟨L, hL⟩ : ∃ L, l ++ encs ((vs.take k).flatMap numsA) = L := ⟨_, rfl⟩
      have hll := HLEN.out k
      have hO := HR.out.1
      rw [hL] at hll hO
      obtain ⟨⟨X, Y, Z⟩, hX⟩ : ∃ t : Tri, vs[k] = t := ⟨_, rfl⟩
      rw [hX] at x0 x1 x2 hvk htk
      obtain ⟨⟨vx0, vx1⟩, ⟨vy0, vy1⟩, vz⟩ := hvk
      simp only at x0 x1 x2 vx0 vx1 vy0 vy1 vz
      have hend : L ++ encs [X, Y] ++ enc (pz Z) = l ++ encs ((vs.take (k + 1)).flatMap numsA) := by
        rw [htk, List.flatMap_append, encs_append, ← List.append_assoc, hL]
        simp [encs, numsA]
      have HEND := Lib.hid hend
      have HE := Lib.hid HR.out.2
      have HZ := Lib.hid vz
      obtain ⟨G, hG⟩ : ∃ G, wr.heap.size = G := ⟨_, rfl⟩
      obtain ⟨W1, hW1⟩ := named (wr.alloc (.cells #[.int .i64 X, .int .i64 Y, .int .i64 Z] 94))
      have hb1 : Below wr.heap.size wr W1 := by rw [hW1]; exact below_new8 _
      have HO1 := Lib.hid (show OwnB N W1 u0 L from own_below8 hO hb1)
      have HE1 := Lib.hid (HE.out.trans (Ext.below u0 hb1))
      have HG1 : Hid (Blk W1 G #[.int .i64 X, .int .i64 Y, .int .i64 Z] 94) := by rw [hW1]; exact Lib.hid (Blk.new _ _ _ _ hG)
      have hN1 : N ≤ W1.heap.size := by have := HE1.out.g.size; omega
      clear hb1 HR hO hend hL hX htk HE vz
      go_upto_region 4 with fail
      rw [← hW1]
      clear x0 x1 x2 hW1
      have HQ : Hid (X ≤ 9223372036854775807 ∧ Y ≤ 9223372036854775807 ∧ 0 ≤ X ∧ 0 ≤ Y ∧ L.length ≤ 200000000) := Lib.hid ⟨by omega, by omega, vx0, vy0, hll⟩
      have hxy2 : (encs [X, Y]).length ≤ 20 := encs_len [X, Y]
      have HXY := Lib.hid hxy2
      clear hxy2
      refine' GG.wp_thenL _ 10 (GG.CS [6, 9] (fun j => [L, L ++ encs [X, Y], L ++ encs [X, Y] ++ enc (pz Z)].getD j []) N W1 u0 G #[.int .i64 X, .int .i64 Y, .int .i64 Z] 94) [[], [], [1], [], [3], [1, 2, 3, 4], [0, 1, 2, 3, 4, 5], [], [7], [0, 1, 2, 3, 4, 5, 6, 7, 8]] (GG.Fact.lit (Rl := GG.RlC) _ :: GG.Fact.lit (Rl := GG.RlC) _ :: GG.Fact.lit (Rl := GG.RlC) _ :: GG.Fact.lit (Rl := GG.RlC) _ :: GG.Fact.lit (Rl := GG.RlC) _ :: GG.Fact.prop (Rl := GG.RlC) _ _ :: GG.Fact.prop (Rl := GG.RlC) _ _ :: GG.Fact.lit (Rl := GG.RlC) _ :: GG.Fact.lit (Rl := GG.RlC) _ :: GG.Fact.prop (Rl := GG.RlC) _ _ :: []) (by kernel_rfl) rfl (by kernel_rfl) (0, u0) (GG.CS.start rfl HO1.out HG1.out) ?seqga
      case' seqga => skip
      (refine' GG.grow_lit (GG.CS.still _) rfl ?wtga0 ?runga0 ?putga0 ?nextga0; (case wtga0 => rfl); (case runga0 => (intro w' hS; (obtain ⟨dn, s, hS⟩ := hS); (obtain ⟨d0, d1, d2, -⟩ := hS.blk.o3); clear hS; go_simp; first | done | exact rfl)); (case putga0 => (simp only [Act.put, List.setIfInBounds_toArray, List.set_cons_zero, List.set_cons_succ]; first | done | exact rfl)); (case' nextga0 => skip))
      (refine' GG.grow_lit (GG.CS.still _) rfl ?wtga1 ?runga1 ?putga1 ?nextga1; (case wtga1 => rfl); (case runga1 => (intro w' hS; (obtain ⟨dn, s, hS⟩ := hS); (obtain ⟨d0, d1, d2, -⟩ := hS.blk.o3); clear hS; go_simp; first | done | exact rfl)); (case putga1 => (simp only [Act.put, List.setIfInBounds_toArray, List.set_cons_zero, List.set_cons_succ]; first | done | exact rfl)); (case' nextga1 => skip))
      (refine' GG.grow_lit (GG.CS.still _) rfl ?wtga2 ?runga2 ?putga2 ?nextga2; (case wtga2 => rfl); (case runga2 => (intro w' hS; (obtain ⟨dn, s, hS⟩ := hS); (obtain ⟨d0, d1, d2, -⟩ := hS.blk.o3); clear hS; go_simp; first | done | exact rfl)); (case putga2 => (simp only [Act.put, List.setIfInBounds_toArray, List.set_cons_zero, List.set_cons_succ]; first | done | exact rfl)); (case' nextga2 => skip))
      (refine' GG.grow_lit (GG.CS.still _) rfl ?wtga3 ?runga3 ?putga3 ?nextga3; (case wtga3 => rfl); (case runga3 => (intro w' hS; (obtain ⟨dn, s, hS⟩ := hS); (obtain ⟨d0, d1, d2, -⟩ := hS.blk.o3); clear hS; go_simp; first | done | exact rfl)); (case putga3 => (simp only [Act.put, List.setIfInBounds_toArray, List.set_cons_zero, List.set_cons_succ]; first | done | exact rfl)); (case' nextga3 => skip))
      (refine' GG.grow_lit (GG.CS.still _) rfl ?wtga4 ?runga4 ?putga4 ?nextga4; (case wtga4 => rfl); (case runga4 => (intro w' hS; (obtain ⟨dn, s, hS⟩ := hS); (obtain ⟨d0, d1, d2, -⟩ := hS.blk.o3); clear hS; go_simp; first | done | exact rfl)); (case putga4 => (simp only [Act.put, List.setIfInBounds_toArray, List.set_cons_zero, List.set_cons_succ]; first | done | exact rfl)); (case' nextga4 => skip))
      (refine' GG.grow_any_op (p := GG.BF 0 #[.int .i64 X, .int .i64 Y] 3 2) (hp := GG.BF.st) rfl ?wtga5 ?runga5 ?putga5 ?nextga5; (case wtga5 => rfl); (case runga5 => (intro dn s w' hS hd H; (refine ⟨.slice (some ⟨w'.heap.size, 0, none⟩) 2 2, s, w'.alloc (.cells #[.int .i64 X, .int .i64 Y] 3), ?_, hS.lit 2 5 0⟩); clear H; go_simp; first | done | exact rfl)); (case putga5 => (intro v; (simp only [Act.put, List.setIfInBounds_toArray, List.set_cons_zero, List.set_cons_succ]; first | done | exact rfl))); (case' nextga5 => intro v5))
      (refine' GG.grow_any_call (p := GG.CF 1) (hp := GG.CF.st) rfl Tryz.func80 (by kernel_rfl) rfl rfl ?wtga6 ?runga6 ?putga6 ?nextga6; (case wtga6 => rfl); (case runga6 => (intro dn s w' hS hd H; (obtain ⟨ho, hl, hs2, hz⟩ := hS.at (j := 0) rfl hd (GG.CS.first hS)); (have h5 : GG.BF 0 #[.int .i64 X, .int .i64 Y] 3 2 v5 s w' := H 5 (by decide)); (obtain ⟨x, rfl, hx, hne⟩ := h5 hl); exact (vAddPlain (m := [X, Y]) (Or.inl ho) (Nat.le_trans hN1 hz) hx (by rw [← hs2]; exact hne) (by simp) (by intro y hy; have := HQ.out; simp at hy; omega) (by simp) (by have := HQ.out; show L.length ≤ _; omega)).mono (fun ev w2 ⟨v', e, ho', he'⟩ => ⟨v', _, e, hS.put (by decide) rfl hd (GG.CS.first hS) rfl ho' he'⟩))); (case putga6 => (intro v; (simp only [Act.put, List.setIfInBounds_toArray, List.set_cons_zero, List.set_cons_succ]; first | done | exact rfl))); (case' nextga6 => intro v6))
      (refine' GG.grow_lit (GG.CS.still _) rfl ?wtga7 ?runga7 ?putga7 ?nextga7; (case wtga7 => rfl); (case runga7 => (intro w' hS; (obtain ⟨dn, s, hS⟩ := hS); (obtain ⟨d0, d1, d2, -⟩ := hS.blk.o3); clear hS; go_simp; first | done | exact rfl)); (case putga7 => (simp only [Act.put, List.setIfInBounds_toArray, List.set_cons_zero, List.set_cons_succ]; first | done | exact rfl)); (case' nextga7 => skip))
      (refine' GG.grow_lit (GG.CS.still _) rfl ?wtga8 ?runga8 ?putga8 ?nextga8; (case wtga8 => rfl); (case runga8 => (intro w' hS; (obtain ⟨dn, s, hS⟩ := hS); (obtain ⟨d0, d1, d2, -⟩ := hS.blk.o3); clear hS; go_simp; first | done | exact rfl)); (case putga8 => (simp only [Act.put, List.setIfInBounds_toArray, List.set_cons_zero, List.set_cons_succ]; first | done | exact rfl)); (case' nextga8 => skip))
      (refine' GG.grow_any_call (p := GG.CF 2) (hp := GG.CF.st) rfl Tryz.func79 (by kernel_rfl) rfl rfl ?wtga9 ?runga9 ?putga9 ?nextga9; (case wtga9 => rfl); (case runga9 => (intro dn s w' hS hd H; (have h6 : GG.CF 1 v6 s w' := H 6 (by decide)); (obtain ⟨ho, hl, hs2, hz⟩ := hS.at (j := 1) rfl hd h6); exact (vAddCost ho (Nat.le_trans hN1 hz) HZ.out (by have := HQ.out; have := HXY.out; show (L ++ encs [X, Y]).length ≤ _; rw [List.length_append]; omega)).mono (fun ev w2 ⟨v', e, ho', he'⟩ => ⟨v', _, e, hS.put (by decide) rfl hd h6 rfl ho' he'⟩))); (case putga9 => (intro v; (simp only [Act.put, List.setIfInBounds_toArray, List.set_cons_zero, List.set_cons_succ]; first | done | exact rfl))); (case' nextga9 => intro v9))
      intro dn s w9 hS hdn hk9
      have h9 : GG.CF 2 v9 s w9 := hk9 9 (by decide)
      obtain ⟨ho, he⟩ := hS.last rfl h9
      have HN : Hid (OwnB N w9 v9 (l ++ encs ((vs.take (k + 1)).flatMap numsA)) ∧ Ext w u w9 v9) := Lib.hid ⟨by rw [← HEND.out]; exact ho, HE1.out.trans he⟩
      clear hS hdn hk9 h9 ho he HO1 HE1 HG1
      refine wpAny_ready (rs := [10]) (by kernel_rfl) (by simp) (AllReady.cons rfl (fun K hK => ?_) AllReady.nil)
      go_simp
      refine hK _ _ ?_
      clear hK K
      refine wpAny_done (by kernel_rfl) ?_ _
      go_wp2_with fail
      go_roundw
      case rel => exact ⟨k + 1, by omega, by go_num, HN⟩
      case measure => simp [intOf]; omega
    · obtain rfl : k = vs.length := by omega
      have HF : Hid (OwnB N wr u0 (l ++ encs (vs.flatMap numsA)) ∧ Ext w u wr u0) := by
        have h1 := HR.out.1
        rw [List.take_length] at h1
        exact Lib.hid ⟨h1, HR.out.2⟩
      clear HR
      go_wp2_with fail
      go_ret
      exact ⟨_, rfl, HF.out⟩

end Go.Proofs.YtjapdbegfanfiaaGreatDoor

/-
  The program's file.Encode: the tables put to bytes.
-/
namespace Go.Proofs.YtjapdbegfanfiaaGreatDoor
open Go.RowKit

theorem numsT_len (t : Tab) : (numsT t).length = t.2.2.length + 2 := by unfold numsT; simp
theorem flatT_len : ∀ (l : List Tab), (∀ t ∈ l, t.2.2.length ≤ 256) → (l.flatMap numsT).length ≤ 258 * l.length
  | [], _ => by simp
  | t :: r, h => by
    have h1 := flatT_len r (fun x hx => h x (List.mem_cons_of_mem _ hx))
    have h2 := h t (List.mem_cons_self ..)
    rw [List.flatMap_cons, List.length_append, numsT_len, List.length_cons]
    omega
theorem chkT_len {t : Tab} (h : chkT t.1 t.2.1 t.2.2 = (0, 0)) : (0 ≤ t.1 ∧ t.1 ≤ 16) ∧ (0 ≤ t.2.1 ∧ t.2.1 ≤ 16) ∧ t.2.2.length ≤ 256 ∧ ∀ c ∈ t.2.2, wgt c = true := by
  obtain ⟨i0, i1, o0, o1, hn, hall⟩ := chkT_ok (by rw [h])
  refine ⟨⟨i0, i1⟩, ⟨o0, o1⟩, ?_, fun c hc => List.all_eq_true.1 hall c hc⟩
  have h1 : t.1 * t.2.1 ≤ 16 * 16 := Int.mul_le_mul i1 o1 o0 (by omega)
  omega
set_option maxRecDepth 100000 in
set_option maxHeartbeats 4000000 in
theorem vAddTypes {N : Nat} {w0 w : World} {u : Value} {l : List Int} {ts : List Tab} {q : Option Addr} {c : Nat} (h : OwnB N w u l) (hN : N ≤ w.heap.size) (ht : Tabs w0 (.slice q ts.length c) ts) (h0 : Below w0.heap.size w0 w) (hN0 : w0.heap.size ≤ N) (hc : ∀ t ∈ ts, chkT t.1 t.2.1 t.2.2 = (0, 0)) (hn : ts.length ≤ 256) (hs : l.length ≤ 100000000) :
    Calls Tryz.prog 40 #[u, .slice q ts.length c] w (AddPost N w u (l ++ encs (ts.flatMap numsT))) := by
  have hlen : ∀ k, (l ++ encs ((ts.take k).flatMap numsT)).length ≤ 200000000 := fun k => by
    have h1 := encs_len ((ts.take k).flatMap numsT)
    have h2 : (ts.take k).length ≤ ts.length := by rw [List.length_take]; omega
    have h3 := flatT_len (ts.take k) (fun t ht => (chkT_len (hc t (List.mem_of_mem_take ht))).2.2.1)
    rw [List.length_append]
    omega
  have HLEN := Lib.hid hlen
  have HU := Lib.hid h.ge
  have HT := Lib.hid ht
  have HC := Lib.hid hc
  have HB := Lib.hid h0
  have H0 : Hid (OwnB N w u (l ++ encs ((ts.take 0).flatMap numsT)) ∧ Ext w u w u) := Lib.hid ⟨by simpa [encs] using h, Ext.refl _ _⟩
  clear h hlen ht hc h0
  go_enter Tryz.func40, Tryz.ntmps40
  go_wp2_with fail
  go_loopw [0, 11] (fun b i wr => ∃ (k : Nat), k ≤ ts.length ∧ i = .int .i64 k ∧ Hid (OwnB N wr b (l ++ encs ((ts.take k).flatMap numsT)) ∧ Ext w u wr b)) (fun _ i _ => ts.length - (intOf i).toNat)
  case atStart => exact ⟨0, Nat.zero_le _, rfl, H0⟩
  case round =>
    clear H0
    obtain ⟨k, hk, rfl, HR⟩ := hrel
    by_cases hk1 : k < ts.length
    · have hki : (k : Int) < ts.length := by omega
      have hbw : Below w0.heap.size w0 wr := HB.out.trans ((HR.out.2.low HU.out hN).mono hN0)
      obtain ⟨bt, ot, uu, hq, y0, y1, y2, hrow⟩ := HT.out.at hk1
      have x0 := (hbw.cell (World.block_lt_of_cell? w0 _ y0)).trans y0
      have x1 := (hbw.cell (World.block_lt_of_cell? w0 _ y1)).trans y1
      have x2 := (hbw.cell (World.block_lt_of_cell? w0 _ y2)).trans y2
      obtain ⟨rq, rc, rfl⟩ := hrow.shape
      have htk : ts.take (k + 1) = ts.take k ++ [ts[k]] := List.take_succ_eq_append_getElem hk1
      have hck := chkT_len (HC.out ts[k] (List.getElem_mem hk1))
      obtain ⟨L, hL⟩ : ∃ L, l ++ encs ((ts.take k).flatMap numsT) = L := ⟨_, rfl⟩
      have hll := HLEN.out k
      have hO := HR.out.1
      rw [hL] at hll hO
      obtain ⟨⟨X, Y, cs⟩, hX⟩ : ∃ t : Tab, ts[k] = t := ⟨_, rfl⟩
      rw [hX] at x0 x1 x2 hck htk hrow
      obtain ⟨⟨vx0, vx1⟩, ⟨vy0, vy1⟩, hcl, hcw⟩ := hck
      simp only at x0 x1 x2 vx0 vx1 vy0 vy1 hcl hcw hrow
      have hend : L ++ encs [X, Y] ++ encs (cs.map pz) = l ++ encs ((ts.take (k + 1)).flatMap numsT) := by
        rw [htk, List.flatMap_append, encs_append, ← List.append_assoc, hL, List.append_assoc, ← encs_append]
        simp [numsT]
      have HEND := Lib.hid hend
      have HE := Lib.hid HR.out.2
      have HROW := Lib.hid hrow
      have HCW := Lib.hid hcw
      obtain ⟨G, hG⟩ : ∃ G, wr.heap.size = G := ⟨_, rfl⟩
      obtain ⟨W1, hW1⟩ := named (wr.alloc (.cells #[.int .i64 X, .int .i64 Y, .slice rq cs.length rc] 96))
      have hb1 : Below wr.heap.size wr W1 := by rw [hW1]; exact below_new8 _
      have HO1 := Lib.hid (show OwnB N W1 u0 L from own_below8 hO hb1)
      have HE1 := Lib.hid (HE.out.trans (Ext.below u0 hb1))
      have HG1 : Hid (Blk W1 G #[.int .i64 X, .int .i64 Y, .slice rq cs.length rc] 96) := by rw [hW1]; exact Lib.hid (Blk.new _ _ _ _ hG)
      subst hq
      clear hb1 HR hO hend hL hX htk HE hrow y0 y1 y2 hbw hcw
      go_upto_region 4 with fail
      rw [← hW1]
      clear x0 x1 x2 hW1 hG
      obtain ⟨g0, g1, g2, -, -, -⟩ := HG1.out.o3
      go_wp2_with fail
      obtain ⟨xl, hxl⟩ : ∃ x, W1.heap.size = x := ⟨_, rfl⟩
      obtain ⟨W2, hW2⟩ := named (W1.alloc (.cells #[.int .i64 X, .int .i64 Y] 3))
      have hb2 : Below W1.heap.size W1 W2 := by rw [hW2]; exact below_new8 _
      have hK : Hid (Blk W2 xl ([X, Y].map (Value.int .i64)).toArray 3) := by rw [hW2]; exact Lib.hid (Blk.new _ _ _ _ hxl)
      have HO2 := Lib.hid (show OwnB N W2 u0 L from own_below8 HO1.out hb2)
      have HE2 := Lib.hid (HE1.out.trans (Ext.below u0 hb2))
      have HG2 := Lib.hid (HG1.out.keep hb2)
      rw [← hW2, hxl]
      clear hW2 hxl hb2 g0 g1 g2 HO1 HE1 HG1
      refine (vAddPlain (m := [X, Y]) (Or.inl HO2.out) (by have := HE2.out.g.size; omega) hK.out (HO2.out.ne hK.out (by decide)) (by simp) (by intro y hy; simp at hy; omega) (by simp) (by omega)).mono ?_
      rintro ev w3 ⟨v3, rfl, ho, he⟩
      obtain ⟨L2, hL2⟩ : ∃ M, L ++ encs [X, Y] = M := ⟨_, rfl⟩
      have hll2 : L2.length ≤ 200000020 := by rw [← hL2, List.length_append]; have := encs_len [X, Y]; simp at this; omega
      rw [hL2] at ho HEND
      have HO3 := Lib.hid ho
      have HE3 := Lib.hid (HE2.out.trans he)
      have HG3 := Lib.hid (he.blk HG2.out (HO2.out.ne HG2.out (by decide)))
      clear ho he HO2 HE2 HG2 hK hL2
      obtain ⟨g0, g1, g2, -, -, -⟩ := HG3.out.o3
      go_wp2_with fail
      clear g0 g1 g2 HG3
      have H1 : Hid (OwnB N w3 v3 (L2 ++ encs ((cs.take 0).map pz)) ∧ Ext w u w3 v3) := Lib.hid ⟨by simpa [encs] using HO3.out, HE3.out⟩
      clear HO3 HE3
      go_loopw [0, 25] (fun b i wq => ∃ (j : Nat), j ≤ cs.length ∧ i = .int .i64 j ∧ Hid (OwnB N wq b (L2 ++ encs ((cs.take j).map pz)) ∧ Ext w u wq b)) (fun _ i _ => cs.length - (intOf i).toNat)
      case atStart => exact ⟨0, Nat.zero_le _, rfl, H1⟩
      case round =>
        clear H1
        obtain ⟨j, hj, rfl, HR⟩ := hrel
        by_cases hj1 : j < cs.length
        · have hji : (j : Int) < cs.length := by omega
          have hbw : Below w0.heap.size w0 wr := HB.out.trans ((HR.out.2.low HU.out hN).mono hN0)
          obtain ⟨bc, oc, hqc, hcell⟩ := (HROW.out.below hbw).at hj1
          subst hqc
          have hst : (cs.take (j + 1)).map pz = (cs.take j).map pz ++ [pz cs[j]] := by rw [List.take_succ_eq_append_getElem hj1, List.map_append]; rfl
          have hwj := HCW.out cs[j] (List.getElem_mem hj1)
          obtain ⟨C, hC⟩ : ∃ C, cs[j] = C := ⟨_, rfl⟩
          rw [hC] at hcell hst hwj
          have HST := Lib.hid hst
          have HWJ := Lib.hid hwj
          have hlj : (L2 ++ encs ((cs.take j).map pz)).length ≤ 300000000 := by
            have h1 := encs_len ((cs.take j).map pz)
            rw [List.length_map, List.length_take] at h1
            rw [List.length_append]
            omega
          clear hst hwj hC hbw
          go_wp2_with fail
          refine (vAddCost HR.out.1 (by have := HR.out.2.g.size; omega) HWJ.out (by omega)).mono ?_
          rintro ev w4 ⟨v4, rfl, ho, he⟩
          have HN : Hid (OwnB N w4 v4 (L2 ++ encs ((cs.take (j + 1)).map pz)) ∧ Ext w u w4 v4) := by
            rw [HST.out, encs_snoc, ← List.append_assoc]
            exact Lib.hid ⟨ho, HR.out.2.trans he⟩
          clear ho he HR hcell
          go_wp2_with fail
          go_roundw
          case rel => exact ⟨j + 1, by omega, by go_num, HN⟩
          case measure => simp [intOf]; omega
        · obtain rfl : j = cs.length := by omega
          have hf := HR.out
          rw [List.take_length, HEND.out] at hf
          have HN := Lib.hid hf
          clear hf HR
          go_wp2_with fail
          go_roundw
          case rel => exact ⟨k + 1, by omega, by go_num, HN⟩
          case measure => simp [intOf]; omega
    · obtain rfl : k = ts.length := by omega
      have HF : Hid (OwnB N wr u0 (l ++ encs (ts.flatMap numsT)) ∧ Ext w u wr u0) := by
        have h1 := HR.out.1
        rw [List.take_length] at h1
        exact Lib.hid ⟨h1, HR.out.2⟩
      clear HR
      go_wp2_with fail
      go_ret
      exact ⟨_, rfl, HF.out⟩

end Go.Proofs.YtjapdbegfanfiaaGreatDoor

/-
  The program's file.Encode, whole.
-/
namespace Go.Proofs.YtjapdbegfanfiaaGreatDoor
open Go.RowKit
open GG (Gh RlC CF doneG)

/-- The ghost's step in Encode: where nothing is put, memory only grows. -/
def RlE (s : Gh) (w : World) (s' : Gh) (w' : World) : Prop := RlC s w s' w' ∧ (s.1 = s'.1 → Below w.heap.size w w')
theorem CF.ste {i : Nat} : ∀ v s w s' w', CF i v s w → RlE s w s' w' → CF i v s' w' := fun v s w s' w' h hr => GG.CF.st v s w s' w' h hr.1
/-- The mark's literal. -/
def MF (N : Nat) (v : Value) (s : Gh) (w : World) : Prop := CF 1 v s w ∧ (s.1 = 1 → ∃ x, v = .slice (some ⟨x, 0, none⟩) 4 4 ∧ Blk w x #[.int .u8 82, .int .u8 78, .int .u8 68, .int .u8 49] 5 ∧ N ≤ x)
theorem MF.ste {N : Nat} : ∀ v s w s' w', MF N v s w → RlE s w s' w' → MF N v s' w' := fun v s w s' w' h hr => by
  obtain ⟨h1, h2⟩ := h
  refine ⟨GG.CF.st v s w s' w' h1 hr.1, fun e => ?_⟩
  have h3 : s.1 = 1 := by have := h1.1; have := hr.1.1; omega
  obtain ⟨x, e1, e2, e3⟩ := h2 h3
  exact ⟨x, e1, e2.keep (hr.2 (by omega)), e3⟩
structure EM (al : List Nat) (ls : Nat → List Int) (N : Nat) (w0 : World) (u0 : Value) (kb : Nat) (cs : Array Value) (T : TypeId) (dn : Nat → Bool) (s : Gh) (w : World) : Prop where
  lim : ∀ (j a : Nat), al[j]? = some a → dn a = false → s.1 ≤ j
  top : s.1 ≤ al.length
  zero : s.1 = 0 → s.2 = u0
  own : BufV N w s.2 (ls s.1)
  owm : s.1 ≠ 2 → OwnB N w s.2 (ls s.1)
  ext : Ext w0 u0 w s.2
  blk : Blk w kb cs T
section
variable {al : List Nat} {ls : Nat → List Int} {N : Nat} {w0 : World} {u0 : Value} {kb : Nat} {cs : Array Value} {T : TypeId} {dn : Nat → Bool} {s : Gh} {w : World}
theorem BufV.lt {v : Value} {l : List Int} (h : BufV N w v l) : ∀ g, v.ownBlock = some g → g < w.heap.size := by
  intro g hg
  rcases h with h | ⟨h0, g', rfl, -, h⟩
  · rcases h.2 with ⟨rfl, -⟩ | ⟨g', cap, cur, rfl, -, hgg, -⟩
    · cases hg
    · simp only [Value.ownBlock, Option.some.injEq] at hg
      subst hg
      exact (Array.getElem?_eq_some_iff.1 hgg).1
  · simp only [Value.ownBlock, Option.some.injEq] at hg
    subst hg
    rcases h with ⟨h1, -⟩ | ⟨_, _, _, _, _, _, hlt, _⟩
    · exact absurd h1 h0
    · exact hlt
theorem EM.start (h0 : ls 0 = []) (hk : Blk w kb cs T) : EM al ls N w (.slice none 0 0) kb cs T (fun _ => false) (0, .slice none 0 0) w.drew :=
  ⟨fun _ _ _ _ => Nat.zero_le _, Nat.zero_le _, fun _ => rfl, Or.inl (by show OwnB N w _ (ls 0); rw [h0]; exact OwnB.nil _ _), fun _ => by show OwnB N w _ (ls 0); rw [h0]; exact OwnB.nil _ _, Ext.below _ (Below.refl _ _).drew, hk⟩
theorem EM.on (h : EM al ls N w0 u0 kb cs T dn s w) (i : Nat) : EM al ls N w0 u0 kb cs T (doneG dn i) s w := ⟨fun j a ha hd => h.lim j a ha (GG.done_false hd).1, h.top, h.zero, h.own, h.owm, h.ext, h.blk⟩
theorem EM.still (i : Nat) : GG.Still (EM al ls N w0 u0 kb cs T) RlE i := ⟨fun _ _ _ h => h.on i, fun s w => ⟨GG.RlC.refl s w, fun _ => Below.refl _ _⟩⟩
theorem EM.put {w' : World} {u v' : Value} {i j : Nat} (h : EM al ls N w0 u0 kb cs T dn s w) (hkb : kb < N) (ha : al[j]? = some i) (hd : dn i = false) (hu : CF j u s w) (ho : BufV N w' v' (ls (j + 1))) (hm : j + 1 ≠ 2 → OwnB N w' v' (ls (j + 1))) (he : Ext w u w' v') :
    CF (j + 1) v' (j + 1, v') w' ∧ EM al ls N w0 u0 kb cs T (doneG dn i) (j + 1, v') w' ∧ RlE s w (j + 1, v') w' ∧ w.heap.size ≤ w'.heap.size := by
  have h1 := h.lim j i ha hd
  have h2 : s.1 = j := by have := hu.1; omega
  have h3 := hu.2 h2
  have hj : j < al.length := (List.getElem?_eq_some_iff.1 ha).1
  have hge := h.own.ge
  rw [h3] at hge
  have hne : u.ownBlock ≠ some kb := fun e => by have := hge kb e; omega
  rw [← h3] at he hne
  refine ⟨⟨Nat.le_refl _, fun _ => rfl⟩, ⟨fun j' a ha' hd' => ?_, by show j + 1 ≤ al.length; omega, fun e => by simp at e, ho, hm, h.ext.trans he, he.blk h.blk hne⟩, ⟨⟨by show s.1 ≤ j + 1; omega, fun e => by have : s.1 = j + 1 := e; omega, he⟩, fun e => by have : s.1 = j + 1 := e; omega⟩, he.g.size⟩
  obtain ⟨d1, d2⟩ := GG.done_false hd'
  have := h.lim j' a ha' d1
  have hne : j' ≠ j := fun e => by subst e; rw [ha] at ha'; exact d2 (Option.some.inj ha').symm
  show j + 1 ≤ j'
  omega
theorem EM.at (h : EM al ls N w0 u0 kb cs T dn s w) {i j : Nat} {u : Value} (ha : al[j]? = some i) (hd : dn i = false) (hu : CF j u s w) :
    BufV N w u (ls j) ∧ (j ≠ 2 → OwnB N w u (ls j)) ∧ s.1 = j ∧ w0.heap.size ≤ w.heap.size := by
  have h1 := h.lim j i ha hd
  have h2 : s.1 = j := by have := hu.1; omega
  have h3 := hu.2 h2
  have ho := h.own
  have hm := h.owm
  rw [h2, h3] at ho hm
  exact ⟨ho, hm, h2, h.ext.g.size⟩
theorem EM.first (h : EM al ls N w0 u0 kb cs T dn s w) : CF 0 u0 s w := ⟨Nat.zero_le _, h.zero⟩
theorem EM.last {v : Value} {n : Nat} (h : EM al ls N w0 u0 kb cs T dn s w) (hn : al.length = n) (hn2 : n ≠ 2) (hv : CF n v s w) : OwnB N w v (ls n) ∧ Ext w0 u0 w v := by
  have h1 := h.top
  have h2 : s.1 = n := by have := hv.1; omega
  have h3 := hv.2 h2
  have h4 := h.owm
  have h5 := h.ext
  rw [h2, h3] at h4
  rw [h3] at h5
  exact ⟨h4 hn2, h5⟩
end
theorem OwnB.lit {N : Nat} {w : World} (l : List Int) (hl : l.length ≤ 1000) (hN : N ≤ w.heap.size) : OwnB N (w.alloc (.cells (l.map (Value.int .u8)).toArray 5)) (.slice (some ⟨w.heap.size, 0, none⟩) l.length l.length) l :=
  ⟨by simp, Or.inr ⟨w.heap.size, l.length, _, rfl, hN, heap_alloc_new w _, Nat.le_refl _, by simp [maxLen]; omega, by simp, by simp only [Nat.mul_one]; exact List.take_of_length_le (by simp)⟩⟩
/-- The mark on a literal's row: the block alone turns. -/
theorem conv_mark {w : World} {x : Nat} {C : Array Value} {n c : Nat} (h : Blk w x C 5) :
    ∃ w', (convert 22 22 (.slice (some ⟨x, 0, none⟩) n c)).run Tryz.prog w = .ok (.slice (some ⟨x, 0, none⟩) n c) w' ∧ w.grownBy w' (some x) ∧ w'.heap[x]? = some (.cells C 5 (C.size, C.size + 1)) := by
  have hsh : w.shape? x = some (5, C.size) := by unfold World.shape?; rw [show w.heap[x]? = _ from h]
  refine ⟨w.freeze ⟨x, C.size, none⟩ 1, ?_, ?_, ?_⟩
  · simp [convert, run_underlying Tryz.underlying22, run_underlying Tryz.underlying5, markStringish, hsh]
  · unfold World.freeze
    rw [if_neg (by decide)]
    refine ⟨rfl, rfl, rfl, by simp, fun k hk hne => ?_⟩
    show (w.heap.modify x _)[k]? = _
    rw [Array.getElem?_modify, if_neg (fun e => hne (by rw [e]))]
  · unfold World.freeze
    rw [if_neg (by decide)]
    show (w.heap.modify x _)[x]? = _
    rw [Array.getElem?_modify, if_pos rfl, show w.heap[x]? = _ from h]
    rfl
theorem U8at.row {w : World} {x : Nat} {l : List Int} {f : Nat × Nat} (h : w.heap[x]? = some (.cells (l.map (Value.int .u8)).toArray 5 f)) (hl : l.length ≤ 1000) : U8at w (.slice (some ⟨x, 0, none⟩) l.length l.length) l x := by
  refine Or.inr ⟨by omega, 0, l.length, Nat.le_refl _, by omega, rfl, (Array.getElem?_eq_some_iff.1 h).1, fun i hi => ?_⟩
  unfold World.cell?
  simp only [h]
  simp [hi]

end Go.Proofs.YtjapdbegfanfiaaGreatDoor
