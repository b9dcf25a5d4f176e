/-
  The document's least walks, till nothing is less any more: plain mathematics, no program stands here.
-/
import Derived.Test.YtgihaakgadmidaaGreatK1
import Derived.Test.YtgihaakgadmidaaGreatE3
import Derived.Maps.AppendAt
import Derived.Test.YtgihaakgadmidaaGreatK3
import Derived.Test.YtgihaakgadmidaaGreatRNetB
namespace Go.Proofs.YtgihaakgadmidaaGreat
open HP

/-- The arcs behind a, by turns that do not cost Inf; what these cost. -/
def nxtL (n : NetD) (a : Nat) : List Int := (outsL n.a (n.arc a).2.1).filter fun b => decide (¬ n.turn a b = 1152921504606846976)
def trnL (n : NetD) (a : Nat) : List Int := (nxtL n a).map fun b => n.turn a b
section
variable {n : NetD} {a b s k : Nat} {d : List Int} {c : Int}
theorem nxt_mem {y : Int} : y ∈ nxtL n a ↔ ∃ b : Nat, b < n.a.length ∧ y = b ∧ (n.arc b).1 = (n.arc a).2.1 ∧ n.turn a b ≠ 1152921504606846976 := by
  unfold nxtL
  rw [List.mem_filter]
  constructor
  · rintro ⟨h, ht⟩
    obtain ⟨b, hb, rfl, e⟩ := outs_mem.1 h
    exact ⟨b, hb, rfl, e, by simpa using ht⟩
  · rintro ⟨b, hb, rfl, e, ht⟩
    exact ⟨outs_mem.2 ⟨b, hb, rfl, e⟩, by simpa using ht⟩
/-- On the way from s. -/
structure RfS (n : NetD) (s : Nat) (d : List Int) : Prop where
  len : d.length = n.a.length
  hi : ∀ b, b < n.a.length → ctL d b ≤ 1152921504606846976
  att : ∀ b, b < n.a.length → ctL d b < 1152921504606846976 → Att (hN n) n.a.length s b (ctL d b) ∧ wN n b ≠ 1152921504606846976
  zero : ctL d s = 0
theorem RfS.start (hs : s < n.a.length) (ho : wN n s ≠ 1152921504606846976) : RfS n s ((List.replicate n.a.length 1152921504606846976).set s 0) := by
  have hl : s < (List.replicate n.a.length (1152921504606846976 : Int)).length := by simpa using hs
  refine ⟨by simp, fun b _ => ?_, fun b _ hlt => ?_, by rw [ctL_set _ _ hl, if_pos rfl]⟩
  · rw [ctL_set _ _ hl]
    split
    · omega
    · rw [ctL_rep]; exact Int.le_refl _
  · rw [ctL_set _ _ hl] at hlt ⊢
    split
    · next e => subst e; exact ⟨.start, ho⟩
    · next e => rw [if_neg e, ctL_rep] at hlt; omega
theorem RfS.lo (h : RfS n s d) (hb : b < n.a.length) : 0 ≤ ctL d b := by
  by_cases hl : ctL d b < 1152921504606846976
  · exact (h.att b hb hl).1.held.1
  · omega
theorem RfS.relax (h : RfS n s d) (ha : a < n.a.length) (hb : b < n.a.length) (hc : addC (ctL d a) (oN n a b) = c) (hlt : c < ctL d b) : RfS n s (d.set b c) := by
  have hbl : b < d.length := by rw [h.len]; exact hb
  have hcb := addC_held (ctL d a) (oN n a b)
  rw [hc] at hcb
  have hbi := h.hi b hb
  have hal : ctL d a < 1152921504606846976 := addC_ltL (by rw [hc]; omega) (h.hi a ha)
  obtain ⟨k1, k2⟩ := h.att a ha hal
  have hh : hN n a b = oN n a b := by unfold hN; rw [if_neg k2]
  refine ⟨by rw [List.length_set]; exact h.len, fun i hi => ?_, fun i hi hl => ?_, ?_⟩
  · rw [ctL_set _ _ hbl]
    split
    · omega
    · exact h.hi i hi
  · rw [ctL_set _ _ hbl] at hl ⊢
    split
    · next e =>
      subst e
      refine ⟨by rw [← hc, ← hh]; exact .step k1 hb, fun e => ?_⟩
      have : oN n a i ≠ 1152921504606846976 := addC_ltR (u := ctL d a) (by rw [hc]; omega)
      unfold oN at this
      rw [e, addC_inf] at this
      exact this rfl
    · next e => rw [if_neg e] at hl; exact h.att i hi hl
  · rw [ctL_set _ _ hbl]
    split
    · next e =>
      subst e
      rw [h.zero] at hlt
      omega
    · exact h.zero
/-- Nothing is less for the first k steps of a. -/
def ClF (n : NetD) (d : List Int) (a k : Nat) : Prop := ∀ b : Nat, (b : Int) ∈ (nxtL n a).take k → ctL d b ≤ addC (ctL d a) (oN n a b)
theorem ClF.zero : ClF n d a 0 := fun b hb => by simp at hb
theorem ClF.succ (h : ClF n d a k) (hk : k < (nxtL n a).length) (hb : (nxtL n a)[k] = (b : Int)) (hc : ctL d b ≤ addC (ctL d a) (oN n a b)) : ClF n d a (k + 1) := fun i hi => by
  rw [List.take_succ_eq_append_getElem hk] at hi
  rcases List.mem_append.1 hi with hi | hi
  · exact h i hi
  · have := List.mem_singleton.1 hi
    rw [hb] at this
    obtain rfl : i = b := by omega
    exact hc
theorem RfS.done (h : RfS n s d) (hs : s < n.a.length) (ho : wN n s ≠ 1152921504606846976) (hc : ∀ a, a < n.a.length → ClF n d a (nxtL n a).length) : FromP n s d := by
  refine ⟨h.len, Or.inl ⟨s, rfl, hs, ho, h.hi, by rw [h.zero]; exact Int.le_refl _, fun b hb hl => (h.att b hb hl).1, fun a b ha hb => ?_⟩⟩
  unfold hN
  split
  · rw [addC_inf]; exact h.hi b hb
  · by_cases ht : n.turn a b = 1152921504606846976
    · unfold oN; rw [ht, addC_infL, addC_inf]; exact h.hi b hb
    · by_cases e : (n.arc a).2.1 = (n.arc b).1
      · exact hc a ha b (by rw [List.take_length]; exact nxt_mem.2 ⟨b, hb, rfl, e.symm, ht⟩)
      · exact absurd (turn_apartN (fun h => e h.2.2)) ht
/-- On the way to t. -/
structure RtS (n : NetD) (t : Nat) (d : List Int) : Prop where
  len : d.length = n.a.length
  hi : ∀ b, b < n.a.length → ctL d b ≤ 1152921504606846976
  att : ∀ b, b < n.a.length → ctL d b < 1152921504606846976 → BAtt (hN n) n.a.length t b (ctL d b)
  zero : ctL d t = 0
theorem RtS.start (hs : s < n.a.length) : RtS n s ((List.replicate n.a.length 1152921504606846976).set s 0) := by
  have hl : s < (List.replicate n.a.length (1152921504606846976 : Int)).length := by simpa using hs
  refine ⟨by simp, fun b _ => ?_, fun b _ hlt => ?_, by rw [ctL_set _ _ hl, if_pos rfl]⟩
  · rw [ctL_set _ _ hl]
    split
    · omega
    · rw [ctL_rep]; exact Int.le_refl _
  · rw [ctL_set _ _ hl] at hlt ⊢
    split
    · next e => subst e; exact .start
    · next e => rw [if_neg e, ctL_rep] at hlt; omega
theorem RtS.lo (h : RtS n s d) (hb : b < n.a.length) : 0 ≤ ctL d b := by
  by_cases hl : ctL d b < 1152921504606846976
  · exact (h.att b hb hl).held.1
  · omega
theorem RtS.relax (h : RtS n s d) (ha : a < n.a.length) (hb : b < n.a.length) (ho : wN n a ≠ 1152921504606846976) (hc : addC (ctL d b) (oN n a b) = c) (hlt : c < ctL d a) : RtS n s (d.set a c) := by
  have hal : a < d.length := by rw [h.len]; exact ha
  have hcb := addC_held (ctL d b) (oN n a b)
  rw [hc] at hcb
  have hai := h.hi a ha
  have hbl : ctL d b < 1152921504606846976 := addC_ltL (by rw [hc]; omega) (h.hi b hb)
  have k1 := h.att b hb hbl
  have hh : hN n a b = oN n a b := by unfold hN; rw [if_neg ho]
  refine ⟨by rw [List.length_set]; exact h.len, fun i hi => ?_, fun i hi hl => ?_, ?_⟩
  · rw [ctL_set _ _ hal]
    split
    · omega
    · exact h.hi i hi
  · rw [ctL_set _ _ hal] at hl ⊢
    split
    · next e => subst e; rw [← hc, ← hh]; exact .step k1 ha
    · next e => rw [if_neg e] at hl; exact h.att i hi hl
  · rw [ctL_set _ _ hal]
    split
    · next e =>
      subst e
      rw [h.zero] at hlt
      omega
    · exact h.zero
def ClT (n : NetD) (d : List Int) (a k : Nat) : Prop := ∀ b : Nat, (b : Int) ∈ (nxtL n a).take k → ctL d a ≤ addC (ctL d b) (oN n a b)
theorem ClT.zero : ClT n d a 0 := fun b hb => by simp at hb
theorem ClT.succ (h : ClT n d a k) (hk : k < (nxtL n a).length) (hb : (nxtL n a)[k] = (b : Int)) (hc : ctL d a ≤ addC (ctL d b) (oN n a b)) : ClT n d a (k + 1) := fun i hi => by
  rw [List.take_succ_eq_append_getElem hk] at hi
  rcases List.mem_append.1 hi with hi | hi
  · exact h i hi
  · have := List.mem_singleton.1 hi
    rw [hb] at this
    obtain rfl : i = b := by omega
    exact hc
theorem RtS.done (h : RtS n s d) (hs : s < n.a.length) (ho : wN n s ≠ 1152921504606846976) (hc : ∀ a, a < n.a.length → wN n a ≠ 1152921504606846976 → ClT n d a (nxtL n a).length) : ToP n s d := by
  refine ⟨h.len, Or.inl ⟨s, rfl, hs, ho, h.hi, by rw [h.zero]; exact Int.le_refl _, fun b hb hl => h.att b hb hl, fun a b ha hb => ?_⟩⟩
  unfold hN
  split
  · rw [addC_inf]; exact h.hi a ha
  · next hw =>
    by_cases ht : n.turn a b = 1152921504606846976
    · unfold oN; rw [ht, addC_infL, addC_inf]; exact h.hi a ha
    · by_cases e : (n.arc a).2.1 = (n.arc b).1
      · exact hc a ha hw b (by rw [List.take_length]; exact nxt_mem.2 ⟨b, hb, rfl, e.symm, ht⟩)
      · exact absurd (turn_apartN (fun h => e h.2.2)) ht
end

end Go.Proofs.YtgihaakgadmidaaGreat

/-
  Two rows of rows that grow side by side, each row in a block of its own.
-/
namespace Go.Proofs.YtgihaakgadmidaaGreat
open HP Go.RowKit

/-- No two of these rows lie in one block. -/
def Dis (us us' : List Value) : Prop := ∀ (i j : Nat) (u u' : Value) (g : Nat), us[i]? = some u → us'[j]? = some u' → u.ownBlock = some g → u'.ownBlock ≠ some g
def Dis1 (us : List Value) : Prop := ∀ (i j : Nat) (u u' : Value) (g : Nat), i ≠ j → us[i]? = some u → us[j]? = some u' → u.ownBlock = some g → u'.ownBlock ≠ some g
def OwnL (w : World) (base : Nat) (us : List Value) (L : Nat → List Int) : Prop := ∀ (i : Nat) (u : Value), us[i]? = some u → w.ownsRow base 3 1 u (L i).length ((L i).map (Value.int .i64))
structure TwoR (m : Nat) (L1 L2 : Nat → List Int) (base b1 b2 : Nat) (w0 w : World) : Prop where
  rows : ∃ us1 us2 : List Value, Blk w b1 us1.toArray 43 ∧ Blk w b2 us2.toArray 43 ∧ us1.length = m ∧ us2.length = m ∧ OwnL w base us1 L1 ∧ OwnL w base us2 L2 ∧ Dis1 us1 ∧ Dis1 us2 ∧ Dis us1 us2
  below : Below base w0 w
  lb : base ≤ b1 ∧ base ≤ b2
  ne : b1 ≠ b2
  size : base ≤ w.heap.size
/-- .. where the row of v on the first side has grown to v', which isn't put in its place yet. -/
structure TwoP (m : Nat) (L1 L2 : Nat → List Int) (base b1 b2 v : Nat) (v' : Value) (w0 w : World) : Prop where
  rows : ∃ us1 us2 : List Value, Blk w b1 us1.toArray 43 ∧ Blk w b2 us2.toArray 43 ∧ us1.length = m ∧ us2.length = m ∧ v < m ∧ OwnL w base (us1.set v v') L1 ∧ OwnL w base us2 L2 ∧ Dis1 (us1.set v v') ∧ Dis1 us2 ∧ Dis (us1.set v v') us2
  below : Below base w0 w
  lb : base ≤ b1 ∧ base ≤ b2
  ne : b1 ≠ b2
  size : base ≤ w.heap.size
section
variable {m : Nat} {L1 L2 : Nat → List Int} {base b1 b2 : Nat} {w0 w w' : World}
theorem OwnL.below {us : List Value} {L : Nat → List Int} (h : OwnL w base us L) (hb : Below w.heap.size w w') : OwnL w' base us L := fun i u hu => owns_keep (P := fun _ => True) (h i u hu) (Keep.of hb) (fun _ _ => trivial)
theorem TwoR.old (h : TwoR m L1 L2 base b1 b2 w0 w) (hb : Below w.heap.size w w') : TwoR m L1 L2 base b1 b2 w0 w' := by
  obtain ⟨us1, us2, h1, h2, h3, h4, h5, h6, h7⟩ := h.rows
  exact ⟨⟨us1, us2, h1.keep hb, h2.keep hb, h3, h4, h5.below hb, h6.below hb, h7⟩, h.below.trans (hb.mono h.size), h.lb, h.ne, Nat.le_trans h.size hb.size⟩
theorem TwoP.old {v : Nat} {v' : Value} (h : TwoP m L1 L2 base b1 b2 v v' w0 w) (hb : Below w.heap.size w w') : TwoP m L1 L2 base b1 b2 v v' w0 w' := by
  obtain ⟨us1, us2, h1, h2, h3, h4, hv, h5, h6, h7⟩ := h.rows
  exact ⟨⟨us1, us2, h1.keep hb, h2.keep hb, h3, h4, hv, h5.below hb, h6.below hb, h7⟩, h.below.trans (hb.mono h.size), h.lb, h.ne, Nat.le_trans h.size hb.size⟩
theorem TwoR.swap (h : TwoR m L1 L2 base b1 b2 w0 w) : TwoR m L2 L1 base b2 b1 w0 w := by
  obtain ⟨us1, us2, h1, h2, h3, h4, h5, h6, h7, h8, h9⟩ := h.rows
  exact ⟨⟨us2, us1, h2, h1, h4, h3, h6, h5, h8, h7, fun i j u u' g hi hj hu hu' => h9 j i u' u g hj hi hu' hu⟩, h.below, ⟨h.lb.2, h.lb.1⟩, fun e => h.ne e.symm, h.size⟩
theorem TwoR.cell (h : TwoR m L1 L2 base b1 b2 w0 w) {v : Nat} (hv : v < m) : ∃ q c, w.cell? ⟨b1, v, none⟩ = some (.slice q (L1 v).length c) ∧ I64s w (.slice q (L1 v).length c) (L1 v) ∨ (L1 v).length > 9223372036854775807 := by
  obtain ⟨us1, us2, h1, h2, h3, h4, h5, h6, h7⟩ := h.rows
  have hvu : v < us1.length := by omega
  have hus : us1[v]? = some us1[v] := List.getElem?_eq_getElem hvu
  have ho := h5 v _ hus
  obtain ⟨q, c, e⟩ := own_shape ho
  by_cases hl : (L1 v).length ≤ 9223372036854775807
  · refine ⟨q, c, Or.inl ⟨?_, ?_⟩⟩
    · rw [← e]; exact h1.cell v (by rw [List.getElem?_toArray]; exact hus)
    · rw [← e]; exact ints_of_owns ho hl
  · exact ⟨q, c, Or.inr (by omega)⟩
theorem TwoP.put {v : Nat} {v' : Value} (h : TwoP m L1 L2 base b1 b2 v v' w0 w) : (∃ u, w.cell? ⟨b1, v, none⟩ = some u) ∧ w.frozen? ⟨b1, v, none⟩ = false ∧ b1 < w.heap.size ∧ TwoR m L1 L2 base b1 b2 w0 (w.setCell ⟨b1, v, none⟩ v') := by
  obtain ⟨us1, us2, h1, h2, h3, h4, hv, h5, h6, h7⟩ := h.rows
  refine ⟨⟨us1[v], h1.cell v (by rw [List.getElem?_toArray]; exact List.getElem?_eq_getElem (by omega))⟩, h1.free v, h1.lt, ⟨us1.set v v', us2, ?_, h2.other _ _ (fun e => h.ne e.symm), by simpa using h3, h4, fun i x hx => owns_set (h5 i x hx) h1 (by decide) _ _, fun i x hx => owns_set (h6 i x hx) h1 (by decide) _ _, h7⟩, h.below.setCell h.lb.1 _, h.lb, h.ne, by simpa using h.size⟩
  have := h1.set v v'
  rwa [List.setIfInBounds_toArray] at this
theorem TwoR.app {L1' : Nat → List Int} {v : Nat} {x : Int} {g : Nat} {u : Value} (h : TwoR m L1 L2 base b1 b2 w0 w) (hu : w.cell? ⟨b1, v, none⟩ = some u) (hg : Blk w g #[.int .i64 x] 3) (hv : v < m) (hlen : (L1 v).length ≤ 100000) (hL : L1' v = L1 v ++ [x]) (hO : ∀ i, i ≠ v → L1' i = L1 i) :
    ∃ q' n' c' w', (Builtin.append_ #[43, 43] 43 #[u, .slice (some ⟨g, 0, none⟩) 1 1]).run Tryz.prog w = .ok (.slice q' n' c') w' ∧ TwoP m L1' L2 base b1 b2 v (.slice q' n' c') w0 w' ∧ w.heap.size ≤ w'.heap.size ∧ w'.cell? ⟨b1, v, none⟩ = some u := by
  obtain ⟨us1, us2, h1, h2, h3, h4, h5, h6, h7, h8, h9⟩ := h.rows
  obtain ⟨i0, hi, hz0, hz1, hz2⟩ := info_parts infoInt
  have hvu : v < us1.length := by omega
  have hus : us1[v]? = some us1[v] := List.getElem?_eq_getElem hvu
  obtain rfl : u = us1[v] := Option.some.inj (hu.symm.trans (h1.cell v (by rw [List.getElem?_toArray]; exact hus)))
  have o1 := h5 v _ hus
  have hz9 : base ≤ w.heap.size := h.size
  obtain ⟨v', w', hr, r1, r2, -, r4⟩ := run_append_own_at (P := Tryz.prog) w base 43 43 3 i0 (.int .i64 0) 1 8 Tryz.underlying43 hi hz0 hz1 hz2 rfl (by decide) us1[v] (L1 v).length _ o1 ⟨g, 0, none⟩ 1 1 [.int .i64 x] rfl
    (fun j u hj => by
      rcases j with _ | j
      · simp only [List.getElem?_cons_zero, Option.some.injEq] at hj
        subst hj
        exact hg.cell 0 rfl
      · simp at hj) (by intro u hu; simp at hu; subst hu; rfl) (by unfold maxLen; omega) (by omega) hz9
  have kept : ∀ {L : Nat → List Int} {us : List Value}, OwnL w base us L → (∀ (i : Nat) (y : Value), us[i]? = some y → ∀ g', y.ownBlock = some g' → us1[v].ownBlock ≠ some g') → OwnL w' base us L := fun hL hd i y hy => by
    refine (hL i y hy).kept r2 ?_
    cases hub : y.ownBlock with
    | none => exact Or.inl rfl
    | some g' => exact Or.inr (fun e => hd i y hy g' hub e.symm)
  have new : ∀ {y : Value} {g' : Nat}, (∃ L, w.ownsRow base 3 1 y (L : List Int).length (L.map (Value.int .i64))) → y.ownBlock = some g' → (∀ g'', us1[v].ownBlock = some g'' → y.ownBlock ≠ some g'') → v'.ownBlock ≠ some g' := fun ⟨L, hy⟩ hg' hne => by
    rcases r4 with r4 | r4
    · rw [r4]
      intro e
      exact hne _ e hg'
    · rw [r4]
      intro e
      injection e with e
      have := (hy.lt _ hg').2
      omega
  have hP : TwoP m L1' L2 base b1 b2 v v' w0 w' := by
    refine ⟨⟨us1, us2, h1.grownO r2 (own_ne_blk o1 h1 (by decide)), h2.grownO r2 (own_ne_blk o1 h2 (by decide)), h3, h4, hv, fun i y hui => ?_, kept h6 (fun i y hy g' hg' e => h9 v i _ y g' hus hy e hg'), fun i j y y' g' hij hi' hj' hg' => ?_, h8, fun i j y y' g' hi' hj' hg' => ?_⟩, h.below.grown r2 hz9 (fun g' hg' => own_ge o1 g' (by simpa using hg')), h.lb, h.ne, Nat.le_trans hz9 r2.size⟩
    · by_cases hiv : i = v
      · subst hiv
        rw [List.getElem?_set_self hvu] at hui
        injection hui with hui
        subst hui
        rw [hL, List.length_append, List.map_append]
        exact r1
      · rw [List.getElem?_set_ne (by omega)] at hui
        rw [hO i hiv]
        refine (h5 i y hui).kept r2 ?_
        cases hub : y.ownBlock with
        | none => exact Or.inl rfl
        | some g' => exact Or.inr (fun e => h7 i v y _ g' hiv hui hus hub e.symm)
    · by_cases hiv : i = v
      · subst hiv
        rw [List.getElem?_set_self hvu] at hi'
        injection hi' with hi'
        subst hi'
        rw [List.getElem?_set_ne (by omega)] at hj'
        intro e
        exact new ⟨_, h5 j y' hj'⟩ e (fun g'' hg'' => h7 i j _ y' g'' hij hus hj' hg'') hg'
      · rw [List.getElem?_set_ne (by omega)] at hi'
        by_cases hjv : j = v
        · subst hjv
          rw [List.getElem?_set_self hvu] at hj'
          injection hj' with hj'
          subst hj'
          exact new ⟨_, h5 i y hi'⟩ hg' (fun g'' hg'' => h7 j i _ y g'' (fun e => hij e.symm) hus hi' hg'')
        · rw [List.getElem?_set_ne (by omega)] at hj'
          exact h7 i j y y' g' hij hi' hj' hg'
    · by_cases hiv : i = v
      · subst hiv
        rw [List.getElem?_set_self hvu] at hi'
        injection hi' with hi'
        subst hi'
        intro e
        exact new ⟨_, h6 j y' hj'⟩ e (fun g'' hg'' => h9 i j _ y' g'' hus hj' hg'') hg'
      · rw [List.getElem?_set_ne (by omega)] at hi'
        exact h9 i j y y' g' hi' hj' hg'
  have hcell : w'.cell? ⟨b1, v, none⟩ = some us1[v] := (h1.grownO r2 (own_ne_blk o1 h1 (by decide))).cell v (by rw [List.getElem?_toArray]; exact hus)
  obtain ⟨q', c', rfl⟩ := own_shape r1
  exact ⟨q', _, c', w', hr, hP, r2.size, hcell⟩
end

end Go.Proofs.YtgihaakgadmidaaGreat

/-
  The document's rows of arcs behind an arc: Of.
-/
namespace Go.Proofs.YtgihaakgadmidaaGreat
open HP Go.RowKit

structure GG.S2 (j m : Nat) (L1 L2 : Nat → List Int) (base b1 b2 v : Nat) (u : Value) (w0 : World) (dn : Nat → Bool) (s : Bool) (w : World) : Prop where
  here : dn j = s
  r : s = false → TwoR m L1 L2 base b1 b2 w0 w
  b : Below base w0 w
  sz : base ≤ w.heap.size
  c : w.cell? ⟨b1, v, none⟩ = some u
section
variable {j m : Nat} {L1 L2 : Nat → List Int} {base b1 b2 v : Nat} {u : Value} {w0 : World} {dn : Nat → Bool} {s : Bool} {w w' : World}
theorem GG.S2.step (h : GG.S2 j m L1 L2 base b1 b2 v u w0 dn s w) {i : Nat} (hi : j ≠ i) : GG.S2 j m L1 L2 base b1 b2 v u w0 (GG.doneG dn i) s w :=
  ⟨by show (if j = i then true else dn j) = s; rw [if_neg hi]; exact h.here, h.r, h.b, h.sz, h.c⟩
theorem GG.S2.still {i : Nat} (hi : j ≠ i) : GG.Still (GG.S2 j m L1 L2 base b1 b2 v u w0) GG.RlA i :=
  ⟨fun _ _ _ h => h.step hi, fun _ _ => ⟨id, fun _ => Below.refl _ _⟩⟩
theorem GG.S2.old (h : GG.S2 j m L1 L2 base b1 b2 v u w0 dn s w) (hb : Below w.heap.size w w') : GG.S2 j m L1 L2 base b1 b2 v u w0 dn s w' :=
  ⟨h.here, fun e => (h.r e).old hb, h.b.trans (hb.mono h.sz), Nat.le_trans h.sz hb.size, keep hb h.c⟩
end
def GG.App2 (m : Nat) (L1 L2 : Nat → List Int) (base b1 b2 v : Nat) (w0 : World) (v' : Value) (s : Bool) (w : World) : Prop := s = true ∧ (∃ q n c, v' = .slice q n c) ∧ TwoP m L1 L2 base b1 b2 v v' w0 w
theorem GG.App2.st (m : Nat) (L1 L2 : Nat → List Int) (base b1 b2 v : Nat) (w0 : World) (v' : Value) (s : Bool) (w : World) (s' : Bool) (w' : World) (h : GG.App2 m L1 L2 base b1 b2 v w0 v' s w) (hr : GG.RlA s w s' w') : GG.App2 m L1 L2 base b1 b2 v w0 v' s' w' :=
  ⟨hr.1 h.1, h.2.1, h.2.2.old (hr.2 (by rw [h.1, hr.1 h.1]))⟩
theorem TwoR.row {m : Nat} {L1 L2 : Nat → List Int} {base b1 b2 : Nat} {w0 w : World} (h : TwoR m L1 L2 base b1 b2 w0 w) {v : Nat} (hv : v < m) (hl : (L1 v).length ≤ 100000) : ∃ q c, w.cell? ⟨b1, v, none⟩ = some (.slice q (L1 v).length c) ∧ I64s w (.slice q (L1 v).length c) (L1 v) := by
  obtain ⟨q, c, h | h⟩ := h.cell hv
  · exact ⟨q, c, h⟩
  · omega
theorem own_ne_own {w : World} {base base' : Nat} {e e' : TypeId} {size size' : Nat} {v v' : Value} {n n' : Nat} {xs xs' : List Value} (h : w.ownsRow base e size v n xs) (h' : w.ownsRow base' e' size' v' n' xs') (hne : e ≠ e') {g : Nat} (hg : v.ownBlock = some g) : v'.ownBlock ≠ some g := by
  rcases h.2 with ⟨rfl, _⟩ | ⟨g', cap, cur, rfl, _, h4, _⟩
  · simp [Value.ownBlock] at hg
  · obtain rfl : g' = g := by simpa [Value.ownBlock] using hg
    exact own_ne_blk h' h4 (fun e => hne e.symm)
/-- A row of rows of the call's own, each of known numbers. -/
structure RRow (e e1 : TypeId) (w : World) (base : Nat) (u : Value) (k : Nat) (L : Nat → List Int) : Prop where
  rows : ∃ us : List Value, us.length = k ∧ w.ownsRow base e1 1 u k us ∧ ∀ (i : Nat) (x : Value), us[i]? = some x → w.ownsRow base e 1 x (L i).length ((L i).map (Value.int .i64))
section
variable {e e1 : TypeId} {w w' : World} {base : Nat} {u : Value} {k : Nat} {L : Nat → List Int}
theorem RRow.below (h : RRow e e1 w base u k L) (hb : Below w.heap.size w w') : RRow e e1 w' base u k L := by
  obtain ⟨us, h1, h2, h3⟩ := h.rows
  exact ⟨us, h1, owns_keep (P := fun _ => True) h2 (Keep.of hb) (fun _ _ => trivial), fun i x hx => owns_keep (P := fun _ => True) (h3 i x hx) (Keep.of hb) (fun _ _ => trivial)⟩
theorem RRow.set (h : RRow e e1 w base u k L) {g : Nat} {cs : Array Value} {t : TypeId} (hk : Blk w g cs t) (he : e ≠ t) (he1 : e1 ≠ t) (o : Nat) (y : Value) : RRow e e1 (w.setCell ⟨g, o, none⟩ y) base u k L := by
  obtain ⟨us, h1, h2, h3⟩ := h.rows
  exact ⟨us, h1, owns_set h2 hk he1 o y, fun i x hx => owns_set (h3 i x hx) hk he o y⟩
theorem RRow.shape (h : RRow e e1 w base u k L) : ∃ q c, u = .slice q k c := by
  obtain ⟨us, h1, h2, h3⟩ := h.rows
  exact own_shape h2
/-- .. where a row of another type of elements grows. -/
theorem RRow.grown (h : RRow e e1 w base u k L) {b2 : Nat} {e2 : TypeId} {s2 n2 : Nat} {v2 : Value} {xs2 : List Value} (ho : w.ownsRow b2 e2 s2 v2 n2 xs2) (hg : w.grownBy w' v2.ownBlock) (he : e2 ≠ e) (he1 : e2 ≠ e1) : RRow e e1 w' base u k L := by
  obtain ⟨us, h1, h2, h3⟩ := h.rows
  have ne : ∀ {x : Value} {n : Nat} {xs : List Value} {e' : TypeId}, w.ownsRow base e' 1 x n xs → e2 ≠ e' → w'.ownsRow base e' 1 x n xs := fun hx hne => by
    refine hx.kept hg ?_
    cases hb : Value.ownBlock _ with
    | none => exact Or.inl rfl
    | some g => exact Or.inr (fun e => own_ne_own ho hx hne e.symm hb)
  exact ⟨us, h1, ne h2 he1, fun i x hx => ne (h3 i x hx) he⟩
theorem RRow.app {t : TypeId} (ht : Tryz.prog.underlying t = some (.slice e1)) (hinf : (Tryz.prog.info? e1).map (fun i => (i.zero, i.size, i.bytes)) = some (some (.slice none 0 0), 1, 24)) (h : RRow e e1 w base u k L) {q : Option Addr} {m c : Nat} (hx : w.ownsRow base e 1 (.slice q m c) (L k).length ((L k).map (Value.int .i64))) {g : Nat} (hg : Blk w g #[.slice q m c] e1) (he : e ≠ e1) (hl : k ≤ 100000) (hb : base ≤ w.heap.size) :
    ∃ q c' w', (Builtin.append_ #[t, t] t #[u, .slice (some ⟨g, 0, none⟩) 1 1]).run Tryz.prog w = .ok (.slice q (k + 1) c') w' ∧ RRow e e1 w' base (.slice q (k + 1) c') (k + 1) L ∧ w.grownBy w' u.ownBlock ∧ (∀ gb, u.ownBlock = some gb → base ≤ gb) ∧ (∃ n xs, w.ownsRow base e1 1 u n xs) := by
  obtain ⟨us, h1, h2, h3⟩ := h.rows
  obtain ⟨i0, hi, hz0, hz1, hz2⟩ := info_parts hinf
  obtain ⟨v', w', hr, r1, r2, -⟩ := run_append_own (P := Tryz.prog) w base t t e1 i0 (.slice none 0 0) 1 24 ht hi hz0 hz1 hz2 rfl (by decide) u k us h2 ⟨g, 0, none⟩ 1 1 [.slice q m c] rfl
    (fun j y hj => by
      rcases j with _ | j
      · simp only [List.getElem?_cons_zero, Option.some.injEq] at hj
        subst hj
        exact hg.cell 0 rfl
      · simp at hj) (by intro y hy; simp at hy; subst hy; rfl) (by unfold maxLen; omega) (by omega) hb
  obtain ⟨q', c', rfl⟩ := own_shape r1
  have kept : ∀ {x : Value} {n : Nat} {xs : List Value}, w.ownsRow base e 1 x n xs → w'.ownsRow base e 1 x n xs := fun hx => by
    refine hx.kept r2 ?_
    cases hb : Value.ownBlock _ with
    | none => exact Or.inl rfl
    | some g => exact Or.inr (fun e0 => own_ne_own h2 hx (fun e => he e.symm) e0.symm hb)
  refine ⟨q', c', w', hr, ⟨us ++ [.slice q m c], by simp [h1], r1, fun i x hi => ?_⟩, r2, fun gb hgb => own_ge h2 gb hgb, ⟨k, us, h2⟩⟩
  by_cases hik : i < us.length
  · rw [List.getElem?_append_left hik] at hi
    exact kept (h3 i x hi)
  · rw [List.getElem?_append_right (by omega)] at hi
    have hi0 : i - us.length = 0 := by
      by_cases h0 : i - us.length = 0
      · exact h0
      · obtain ⟨d, hd⟩ : ∃ d, i - us.length = d + 1 := ⟨i - us.length - 1, by omega⟩
        rw [hd] at hi
        simp at hi
    rw [hi0] at hi
    simp at hi
    subst hi
    obtain rfl : i = k := by omega
    exact kept hx
end
/-- The roads of a net, as Of tells them. -/
def RoadsV (w : World) (base : Nat) (rv : Value) (n : NetD) : Prop := ∃ vq aq tq vc ac tc u3 u4, rv = .agg #[.slice vq n.v.length vc, .slice aq n.a.length ac, .slice tq n.t.length tc, u3, u4] ∧ NetS w n vq aq tq vc ac tc ∧ RRow 3 43 w base u3 n.a.length (nxtL n) ∧ RRow 2 36 w base u4 n.a.length (trnL n)
theorem RoadsV.below {w w' : World} {base : Nat} {rv : Value} {n : NetD} (h : RoadsV w base rv n) (hb : Below w.heap.size w w') : RoadsV w' base rv n := by
  obtain ⟨vq, aq, tq, vc, ac, tc, u3, u4, e, h1, h2, h3⟩ := h
  exact ⟨vq, aq, tq, vc, ac, tc, u3, u4, e, h1.below hb, h2.below hb, h3.below hb⟩

theorem idx_short {p : Tri → Bool} {a : List Tri} {k : Nat} (h : a.length ≤ 16384) : (idxFrom p 0 (a.take k)).length ≤ 100000 := by
  have := idxFrom_length p 0 (a.take k)
  rw [List.length_take] at this
  omega
theorem Keep.on {P : Nat → Prop} {w w' w'' : World} (h : Keep P w w') (hb : Below w.heap.size w' w'') : Keep P w w'' :=
  ⟨hb.os.trans h.os, hb.tape.trans h.tape, hb.output.trans h.output, Nat.le_trans h.size hb.size, fun k hk hp => (hb.block k hk).trans (h.block k hk hp)⟩
theorem TwoR.rowK {m : Nat} {L1 L2 : Nat → List Int} {base b1 b2 : Nat} {w0 w : World} (h : TwoR m L1 L2 base b1 b2 w0 w) {v : Nat} (hv : v < m) (hl : (L1 v).length ≤ 100000) {kr : Nat} (hkr : kr < base) : ∃ q c, ∀ w', Keep (fun b => b ≠ kr) w w' → w'.cell? ⟨b1, v, none⟩ = some (.slice q (L1 v).length c) ∧ I64s w' (.slice q (L1 v).length c) (L1 v) ∧ b1 < w'.heap.size := by
  obtain ⟨us1, us2, h1, h2, h3, h4, h5, h6, h7⟩ := h.rows
  have hvu : v < us1.length := by omega
  have hus : us1[v]? = some us1[v] := List.getElem?_eq_getElem hvu
  have ho := h5 v _ hus
  obtain ⟨q, c, e⟩ := own_shape ho
  have hlb := h.lb.1
  refine ⟨q, c, fun w' hk => ?_⟩
  have k1 := hk.blk h1 (by omega)
  refine ⟨?_, ?_, k1.lt⟩
  · rw [← e]; exact k1.cell v (by rw [List.getElem?_toArray]; exact hus)
  · rw [← e]; exact ints_of_owns (owns_keep ho hk (fun b hb => by have := own_ge ho b hb; omega)) (by omega)
theorem appI1 {t e : TypeId} (ht : Tryz.prog.underlying t = some (.slice e)) (hinf : (Tryz.prog.info? e).map (fun i => (i.zero, i.size, i.bytes)) = some (some (.int .i64 0), 1, 8)) {W : World} {base : Nat} {v : Value} {l : List Int} {x : Int} (h : W.ownsRow base e 1 v l.length (l.map (Value.int .i64))) {g : Nat} (hk : Blk W g #[.int .i64 x] e) (hl : l.length ≤ 100000) (hb : base ≤ W.heap.size) :
    ∃ q c w', (Builtin.append_ #[t, t] t #[v, .slice (some ⟨g, 0, none⟩) 1 1]).run Tryz.prog W = .ok (.slice q (l.length + 1) c) w' ∧ w'.ownsRow base e 1 (.slice q (l.length + 1) c) (l ++ [x]).length ((l ++ [x]).map (Value.int .i64)) ∧ W.grownBy w' v.ownBlock := by
  obtain ⟨i0, hi, hz0, hz1, hz2⟩ := info_parts hinf
  obtain ⟨v', w', hr, h1, h2, -⟩ := run_append_own (P := Tryz.prog) W base t t e i0 (.int .i64 0) 1 8 ht hi hz0 hz1 hz2 rfl (by decide) v l.length _ h ⟨g, 0, none⟩ 1 1 [.int .i64 x] rfl
    (fun j u hj => by
      rcases j with _ | j
      · simp only [List.getElem?_cons_zero, Option.some.injEq] at hj
        subst hj
        exact hk.cell 0 rfl
      · simp at hj) (by intro u hu; simp at hu; subst hu; rfl) (by simp [maxLen]; omega) (by omega) hb
  obtain ⟨q, c, rfl⟩ := own_shape h1
  refine ⟨q, c, w', hr, ?_, h2⟩
  rw [List.length_append, List.map_append]
  exact h1
/-- The steps of a row, so far. -/
def nxtT (n : NetD) (a j : Nat) : List Int := ((outsL n.a (n.arc a).2.1).take j).filter fun b => decide (¬ n.turn a b = 1152921504606846976)
theorem nxtT_succ {n : NetD} {a j : Nat} {v z : Int} (hv : (n.arc a).2.1 = v) (hj : j < (outsL n.a v).length) (hz : (outsL n.a v)[j] = z) : nxtT n a (j + 1) = nxtT n a j ++ (if n.turn a z = 1152921504606846976 then [] else [z]) := by
  subst hv hz
  unfold nxtT
  rw [List.take_succ_eq_append_getElem hj, List.filter_append]
  congr 1
  by_cases h : n.turn a (outsL n.a (n.arc a).2.1)[j] = 1152921504606846976
  · simp [h]
  · simp [h]
theorem nxtT_len {n : NetD} {a j : Nat} : (nxtT n a j).length ≤ j := by
  unfold nxtT
  refine Nat.le_trans (List.length_filter_le _ _) ?_
  rw [List.length_take]
  omega
theorem nxtT_all {n : NetD} {a j : Nat} {v : Int} (hv : (n.arc a).2.1 = v) (hj : j = (outsL n.a v).length) : nxtT n a j = nxtL n a := by
  subst hv hj
  unfold nxtT nxtL
  rw [List.take_length]
theorem own_grown {e e2 : TypeId} {w w' : World} {base b2 : Nat} {x v2 : Value} {n n2 s2 : Nat} {xs xs2 : List Value} (hx : w.ownsRow base e 1 x n xs) (ho : w.ownsRow b2 e2 s2 v2 n2 xs2) (hg : w.grownBy w' v2.ownBlock) (hne : e2 ≠ e) : w'.ownsRow base e 1 x n xs := by
  refine hx.kept hg ?_
  cases hb : Value.ownBlock _ with
  | none => exact Or.inl rfl
  | some g => exact Or.inr (fun e => own_ne_own ho hx hne e.symm hb)
theorem own_old {e : TypeId} {w w' : World} {base : Nat} {x : Value} {n : Nat} {xs : List Value} (hx : w.ownsRow base e 1 x n xs) (hb : Below w.heap.size w w') : w'.ownsRow base e 1 x n xs := owns_keep (P := fun _ => True) hx (Keep.of hb) (fun _ _ => trivial)
/-- The roads, while the arcs are gone over. -/
structure OfS (n : NetD) (WL : World) (kr : Nat) (a b c : Value) (k : Nat) (wr : World) : Prop where
  kp : Keep (fun b => b ≠ kr) WL wr
  box : ∃ u3 u4, Blk wr kr #[a, b, c, u3, u4] 34 ∧ RRow 3 43 wr WL.heap.size u3 k (nxtL n) ∧ RRow 2 36 wr WL.heap.size u4 k (trnL n)
theorem infoRowI : (Tryz.prog.info? 43).map (fun i => (i.zero, i.size, i.bytes)) = some (some (.slice none 0 0), 1, 24) := by kernel_rfl
theorem infoRowJ : (Tryz.prog.info? 36).map (fun i => (i.zero, i.size, i.bytes)) = some (some (.slice none 0 0), 1, 24) := by kernel_rfl
theorem infoI64z : (Tryz.prog.info? 2).map (fun i => (i.zero, i.size, i.bytes)) = some (some (.int .i64 0), 1, 8) := by kernel_rfl
theorem RRow.base {e e1 : TypeId} {w : World} {base base' : Nat} {u : Value} {k : Nat} {L : Nat → List Int} (h : RRow e e1 w base u k L) (hb : base' ≤ base) : RRow e e1 w base' u k L := by
  obtain ⟨us, h1, h2, h3⟩ := h.rows
  exact ⟨us, h1, owns_base h2 hb, fun i x hx => owns_base (h3 i x hx) hb⟩
theorem RRow.set5 {e e1 : TypeId} {w : World} {base : Nat} {u : Value} {k : Nat} {L : Nat → List Int} (h : RRow e e1 w base u k L) {g : Nat} {cs : Array Value} {t : TypeId} (hk : Blk w g cs t) (he : e ≠ t) (he1 : e1 ≠ t) (x0 x1 x2 x3 x4 : Value) :
    RRow e e1 (((((w.setCell ⟨g, 0, none⟩ x0).setCell ⟨g, 1, none⟩ x1).setCell ⟨g, 2, none⟩ x2).setCell ⟨g, 3, none⟩ x3).setCell ⟨g, 4, none⟩ x4) base u k L :=
  ((((h.set hk he he1 0 x0).set (hk.set 0 x0) he he1 1 x1).set ((hk.set 0 x0).set 1 x1) he he1 2 x2).set (((hk.set 0 x0).set 1 x1).set 2 x2) he he1 3 x3).set ((((hk.set 0 x0).set 1 x1).set 2 x2).set 3 x3) he he1 4 x4
set_option maxHeartbeats 8000000 in
set_option maxRecDepth 100000 in
theorem of_is {w : World} {v : Value} {n : NetD} (h : NetV w v n) (hn : GrN n) : Calls Tryz.prog 8 #[v] w fun e w' => ∃ rv, e = .returned rv ∧ RoadsV w' w.heap.size rv n ∧ Below w.heap.size w w' := by
  obtain ⟨vq, aq, tq, vc, ac, tc, rfl, hs⟩ := h.shape
  have hsv := hn.few.v
  have hsa := hn.few.a
  have HN := Lib.hid hn
  have HS0 := Lib.hid hs
  have HSI0 := HS0
  have hmk := run_makeR n.v.length (by omega)
  clear h hn hs
  go_enter Tryz.func8, Tryz.ntmps8
  go_wp2_with fail
  obtain ⟨W0, hW0⟩ := named (((w.alloc (.cells #[.slice vq n.v.length vc, .slice aq n.a.length ac, .slice tq n.t.length tc] 26)).alloc (.cells #[.slice none 0 0, .slice none 0 0, .slice none 0 0, .slice none 0 0, .slice none 0 0] 34)).alloc (.cells #[.slice vq n.v.length vc, .slice aq n.a.length ac, .slice tq n.t.length tc, .slice none 0 0, .slice none 0 0] 34))
  rw [← hW0]
  have hb0 : Below w.heap.size w W0 := by rw [hW0]; exact (((Below.refl _ _).alloc (Nat.le_refl _) _).alloc (by simp) _).alloc (by simp; omega) _
  have z0 : W0.heap.size = w.heap.size + 1 + 1 + 1 := by rw [hW0]; simp
  have K0 : Hid (Blk W0 w.heap.size #[.slice vq n.v.length vc, .slice aq n.a.length ac, .slice tq n.t.length tc] 26) := by rw [hW0]; exact Lib.hid (((Blk.new _ _ _ _ rfl).old _).old _)
  have KQ : Hid (Blk W0 (w.heap.size + 1) #[.slice none 0 0, .slice none 0 0, .slice none 0 0, .slice none 0 0, .slice none 0 0] 34) := by rw [hW0]; exact Lib.hid ((Blk.new _ _ _ _ (by simp)).old _)
  have KR : Hid (Blk W0 (w.heap.size + 1 + 1) #[.slice vq n.v.length vc, .slice aq n.a.length ac, .slice tq n.t.length tc, .slice none 0 0, .slice none 0 0] 34) := by rw [hW0]; exact Lib.hid (Blk.new _ _ _ _ (by simp))
  have HS := Lib.hid (HS0.out.below hb0)
  have B0 := Lib.hid hb0
  clear hW0 hb0 HS0 hmk
  rw [← z0]
  obtain ⟨b1, hb1⟩ : ∃ b, W0.heap.size = b := ⟨_, rfl⟩
  obtain ⟨b2, hb2⟩ : ∃ b, b1 + 1 = b := ⟨_, rfl⟩
  obtain ⟨W1, hW1⟩ := named ((W0.alloc (.cells (Array.replicate n.v.length (Value.slice none 0 0)) 43)).alloc (.cells (Array.replicate n.v.length (Value.slice none 0 0)) 43))
  rw [← hW1, hb1, hb2]
  have TR0 : Hid (TwoR n.v.length (fun i => outsL (n.a.take 0) (i : Int)) (fun i => insL (n.a.take 0) (i : Int)) W0.heap.size b1 b2 W0 W1) := by
    have k1 : Blk W1 b1 (List.replicate n.v.length (Value.slice none 0 0)).toArray 43 := by
      rw [hW1, List.toArray_replicate, ← hb1]
      exact (Blk.new _ _ _ _ rfl).old _
    have k2 : Blk W1 b2 (List.replicate n.v.length (Value.slice none 0 0)).toArray 43 := by
      rw [hW1, List.toArray_replicate, ← hb2, ← hb1]
      exact Blk.new _ _ _ _ (by simp)
    refine Lib.hid ⟨⟨List.replicate n.v.length (Value.slice none 0 0), List.replicate n.v.length (Value.slice none 0 0), k1, k2, by simp, by simp, fun i u hu => ?_, fun i u hu => ?_, fun i j u u' g hij hi hj hg => ?_, fun i j u u' g hij hi hj hg => ?_, fun i j u u' g hi hj hg => ?_⟩, by rw [hW1]; exact below_alloc2 _ _, ⟨by omega, by omega⟩, by omega, by rw [hW1]; simp; omega⟩
    · obtain ⟨-, rfl⟩ := List.mem_replicate.1 (List.mem_of_getElem? hu)
      exact World.ownsRow_nil _ _ _ _
    · obtain ⟨-, rfl⟩ := List.mem_replicate.1 (List.mem_of_getElem? hu)
      exact World.ownsRow_nil _ _ _ _
    all_goals
      obtain ⟨-, rfl⟩ := List.mem_replicate.1 (List.mem_of_getElem? hi)
      simp [Value.ownBlock] at hg
  have HB12 := Lib.hid (And.intro hb1 hb2)
  clear hW1 hb1 hb2
  go_loopw [6] (fun i wr => ∃ k : Nat, k ≤ n.a.length ∧ i = .int .i64 k ∧ Hid (TwoR n.v.length (fun i => outsL (n.a.take k) (i : Int)) (fun i => insL (n.a.take k) (i : Int)) W0.heap.size b1 b2 W0 wr)) (fun i _ => n.a.length - (intOf i).toNat)
  case atStart => exact ⟨0, Nat.zero_le _, rfl, TR0⟩
  case round =>
    obtain ⟨k, hk, rfl, TR⟩ := hrel
    clear TR0
    by_cases hlt : k < n.a.length
    · have hli : (k : Int) < (n.a.length : Int) := by omega
      obtain ⟨ab, ao, rfl, x0, x1, x2⟩ := HS.out.a.at hlt
      obtain ⟨g0, g1, g2, g3⟩ := HN.out.good.arcsIn k hlt
      have hso := fun v => outsL_snoc hlt v
      have hsi := fun v => insL_snoc hlt v
      obtain ⟨⟨F, T, X⟩, eA⟩ : ∃ A, n.a[k] = A := ⟨_, rfl⟩
      rw [eA] at x0 x1 x2 g0 g1 g2 g3
      simp only [eA] at hso hsi
      simp only [] at x0 x1 x2 g0 g1 g2 g3 hso hsi
      obtain ⟨kf, rfl⟩ : ∃ kf : Nat, F = kf := ⟨F.toNat, by omega⟩
      obtain ⟨kt, rfl⟩ : ∃ kt : Nat, T = kt := ⟨T.toNat, by omega⟩
      have X0 := Lib.hid x0
      have X1 := Lib.hid x1
      have HSO := Lib.hid hso
      have HSI := Lib.hid hsi
      have HVT : Hid (kt < n.v.length) := Lib.hid (by omega)
      have HVV : Hid (kf < n.v.length) := Lib.hid (by omega)
      have hvi : (kf : Int) < (n.v.length : Int) := by omega
      have hvt : (kt : Int) < (n.v.length : Int) := by omega
      have HA16 : Hid (n.a.length ≤ 16384) := Lib.hid (by omega)
      have HLK : Hid ((outsL (n.a.take k) (kf : Int)).length ≤ 100000) := Lib.hid (idx_short HA16.out)
      clear eA g0 g1 g2 g3 hso hsi x0 x1 x2
      obtain ⟨qx, cx, hcx, -⟩ := TR.out.row HVV.out HLK.out
      obtain ⟨LL, eLL⟩ : ∃ LL, (outsL (n.a.take k) (kf : Int)).length = LL := ⟨_, rfl⟩
      have SA0 : Hid (GG.S2 18 n.v.length (fun i => outsL (n.a.take k) (i : Int)) (fun i => insL (n.a.take k) (i : Int)) W0.heap.size b1 b2 kf (.slice qx LL cx) W0 (fun _ => false) false wr.drew) := Lib.hid ⟨rfl, fun _ => TR.out.old (Below.refl _ _).drew, TR.out.below.trans ((Below.refl _ _).drew.mono TR.out.size), TR.out.size, by rw [← eLL]; exact hcx⟩
      have HLL := HLK
      have HLA : Hid (outsL (n.a.take (k + 1)) (kf : Int) = outsL (n.a.take k) (kf : Int) ++ [(k : Int)]) := Lib.hid (by rw [HSO.out, if_pos rfl])
      have HLO : Hid (∀ i : Nat, i ≠ kf → outsL (n.a.take (k + 1)) (i : Int) = outsL (n.a.take k) (i : Int)) := Lib.hid (fun i hi => by rw [HSO.out, if_neg (by omega), List.append_nil])
      have HBT : Hid (Below W0.heap.size W0 wr) := Lib.hid TR.out.below
      clear hcx eLL
      obtain ⟨c0, c1, c2, -, -, -⟩ := (K0.out.keep HBT.out).o3
      go_wp2_with fail
      clear c0 c1 c2 HBT
      refine' GG.wp_thenL _ 20 (GG.S2 18 n.v.length (fun i => outsL (n.a.take k) (i : Int)) (fun i => insL (n.a.take k) (i : Int)) W0.heap.size b1 b2 kf (.slice qx LL cx) W0) [[], [], [1], [], [1, 2, 3], [1, 2, 3, 4], [1, 2, 3, 4, 5], [], [], [8], [], [8, 9, 10], [8, 9, 10, 11], [8, 9, 10, 11, 12], [7, 8, 9, 10, 11, 12, 13], [7, 8, 9, 10, 11, 12, 13, 14], [], [16], [7, 8, 9, 10, 11, 12, 13, 14, 15, 16, 17], [0, 1, 2, 3, 4, 5, 6, 7, 8, 9, 10, 11, 12, 13, 14, 15, 16, 17, 18]] (GG.Fact.lit (Rl := GG.RlA) _ :: GG.Fact.lit (Rl := GG.RlA) _ :: GG.Fact.lit (Rl := GG.RlA) _ :: GG.Fact.lit (Rl := GG.RlA) _ :: GG.Fact.lit (Rl := GG.RlA) _ :: GG.Fact.lit (Rl := GG.RlA) _ :: GG.Fact.lit (Rl := GG.RlA) _ :: GG.Fact.lit (Rl := GG.RlA) _ :: GG.Fact.lit (Rl := GG.RlA) _ :: GG.Fact.lit (Rl := GG.RlA) _ :: GG.Fact.lit (Rl := GG.RlA) _ :: GG.Fact.lit (Rl := GG.RlA) _ :: GG.Fact.lit (Rl := GG.RlA) _ :: GG.Fact.lit (Rl := GG.RlA) _ :: GG.Fact.lit (Rl := GG.RlA) _ :: GG.Fact.lit (Rl := GG.RlA) _ :: GG.Fact.lit (Rl := GG.RlA) _ :: GG.Fact.prop (Rl := GG.RlA) _ _ :: GG.Fact.prop (Rl := GG.RlA) _ _ :: GG.Fact.lit (Rl := GG.RlA) _ :: []) (by kernel_rfl) rfl (by kernel_rfl) (false) (SA0.out) ?seqsa
      case' seqsa => skip
      (refine' GG.grow_lit (GG.S2.still (by decide)) rfl ?wtsa0 ?runsa0 ?putsa0 ?nextsa0; (case wtsa0 => rfl); (case runsa0 => (intro w' hS; (obtain ⟨dn, s, hS⟩ := hS); (obtain ⟨c0, c1, c2, -, -, -⟩ := (K0.out.keep hS.b).o3); (have x0 := keep hS.b X0.out); (have y0 := hS.c); (have hl0 := World.block_lt_of_cell? w' _ x0); clear hS; go_simp; first | done | exact rfl)); (case putsa0 => (first | (simp only [Act.put, List.setIfInBounds_toArray, List.set_cons_zero, List.set_cons_succ]; first | done | exact rfl) | rfl)); (case' nextsa0 => skip))
      (refine' GG.grow_lit (GG.S2.still (by decide)) rfl ?wtsa1 ?runsa1 ?putsa1 ?nextsa1; (case wtsa1 => rfl); (case runsa1 => (intro w' hS; (obtain ⟨dn, s, hS⟩ := hS); (obtain ⟨c0, c1, c2, -, -, -⟩ := (K0.out.keep hS.b).o3); (have x0 := keep hS.b X0.out); (have y0 := hS.c); (have hl0 := World.block_lt_of_cell? w' _ x0); clear hS; go_simp; first | done | exact rfl)); (case putsa1 => (first | (simp only [Act.put, List.setIfInBounds_toArray, List.set_cons_zero, List.set_cons_succ]; first | done | exact rfl) | rfl)); (case' nextsa1 => skip))
      (refine' GG.grow_lit (GG.S2.still (by decide)) rfl ?wtsa2 ?runsa2 ?putsa2 ?nextsa2; (case wtsa2 => rfl); (case runsa2 => (intro w' hS; (obtain ⟨dn, s, hS⟩ := hS); (obtain ⟨c0, c1, c2, -, -, -⟩ := (K0.out.keep hS.b).o3); (have x0 := keep hS.b X0.out); (have y0 := hS.c); (have hl0 := World.block_lt_of_cell? w' _ x0); clear hS; go_simp; first | done | exact rfl)); (case putsa2 => (first | (simp only [Act.put, List.setIfInBounds_toArray, List.set_cons_zero, List.set_cons_succ]; first | done | exact rfl) | rfl)); (case' nextsa2 => skip))
      (refine' GG.grow_lit (GG.S2.still (by decide)) rfl ?wtsa3 ?runsa3 ?putsa3 ?nextsa3; (case wtsa3 => rfl); (case runsa3 => (intro w' hS; (obtain ⟨dn, s, hS⟩ := hS); (obtain ⟨c0, c1, c2, -, -, -⟩ := (K0.out.keep hS.b).o3); (have x0 := keep hS.b X0.out); (have y0 := hS.c); (have hl0 := World.block_lt_of_cell? w' _ x0); clear hS; go_simp; first | done | exact rfl)); (case putsa3 => (first | (simp only [Act.put, List.setIfInBounds_toArray, List.set_cons_zero, List.set_cons_succ]; first | done | exact rfl) | rfl)); (case' nextsa3 => skip))
      (refine' GG.grow_lit (GG.S2.still (by decide)) rfl ?wtsa4 ?runsa4 ?putsa4 ?nextsa4; (case wtsa4 => rfl); (case runsa4 => (intro w' hS; (obtain ⟨dn, s, hS⟩ := hS); (obtain ⟨c0, c1, c2, -, -, -⟩ := (K0.out.keep hS.b).o3); (have x0 := keep hS.b X0.out); (have y0 := hS.c); (have hl0 := World.block_lt_of_cell? w' _ x0); clear hS; go_simp; first | done | exact rfl)); (case putsa4 => (first | (simp only [Act.put, List.setIfInBounds_toArray, List.set_cons_zero, List.set_cons_succ]; first | done | exact rfl) | rfl)); (case' nextsa4 => skip))
      (refine' GG.grow_lit (GG.S2.still (by decide)) rfl ?wtsa5 ?runsa5 ?putsa5 ?nextsa5; (case wtsa5 => rfl); (case runsa5 => (intro w' hS; (obtain ⟨dn, s, hS⟩ := hS); (obtain ⟨c0, c1, c2, -, -, -⟩ := (K0.out.keep hS.b).o3); (have x0 := keep hS.b X0.out); (have y0 := hS.c); (have hl0 := World.block_lt_of_cell? w' _ x0); clear hS; go_simp; first | done | exact rfl)); (case putsa5 => (first | (simp only [Act.put, List.setIfInBounds_toArray, List.set_cons_zero, List.set_cons_succ]; first | done | exact rfl) | rfl)); (case' nextsa5 => skip))
      (refine' GG.grow_lit (GG.S2.still (by decide)) rfl ?wtsa6 ?runsa6 ?putsa6 ?nextsa6; (case wtsa6 => rfl); (case runsa6 => (intro w' hS; (obtain ⟨dn, s, hS⟩ := hS); (obtain ⟨c0, c1, c2, -, -, -⟩ := (K0.out.keep hS.b).o3); (have x0 := keep hS.b X0.out); (have y0 := hS.c); (have hl0 := World.block_lt_of_cell? w' _ x0); clear hS; go_simp; first | done | exact rfl)); (case putsa6 => (first | (simp only [Act.put, List.setIfInBounds_toArray, List.set_cons_zero, List.set_cons_succ]; first | done | exact rfl) | rfl)); (case' nextsa6 => skip))
      (refine' GG.grow_lit (GG.S2.still (by decide)) rfl ?wtsa7 ?runsa7 ?putsa7 ?nextsa7; (case wtsa7 => rfl); (case runsa7 => (intro w' hS; (obtain ⟨dn, s, hS⟩ := hS); (obtain ⟨c0, c1, c2, -, -, -⟩ := (K0.out.keep hS.b).o3); (have x0 := keep hS.b X0.out); (have y0 := hS.c); (have hl0 := World.block_lt_of_cell? w' _ x0); clear hS; go_simp; first | done | exact rfl)); (case putsa7 => (first | (simp only [Act.put, List.setIfInBounds_toArray, List.set_cons_zero, List.set_cons_succ]; first | done | exact rfl) | rfl)); (case' nextsa7 => skip))
      (refine' GG.grow_lit (GG.S2.still (by decide)) rfl ?wtsa8 ?runsa8 ?putsa8 ?nextsa8; (case wtsa8 => rfl); (case runsa8 => (intro w' hS; (obtain ⟨dn, s, hS⟩ := hS); (obtain ⟨c0, c1, c2, -, -, -⟩ := (K0.out.keep hS.b).o3); (have x0 := keep hS.b X0.out); (have y0 := hS.c); (have hl0 := World.block_lt_of_cell? w' _ x0); clear hS; go_simp; first | done | exact rfl)); (case putsa8 => (first | (simp only [Act.put, List.setIfInBounds_toArray, List.set_cons_zero, List.set_cons_succ]; first | done | exact rfl) | rfl)); (case' nextsa8 => skip))
      (refine' GG.grow_lit (GG.S2.still (by decide)) rfl ?wtsa9 ?runsa9 ?putsa9 ?nextsa9; (case wtsa9 => rfl); (case runsa9 => (intro w' hS; (obtain ⟨dn, s, hS⟩ := hS); (obtain ⟨c0, c1, c2, -, -, -⟩ := (K0.out.keep hS.b).o3); (have x0 := keep hS.b X0.out); (have y0 := hS.c); (have hl0 := World.block_lt_of_cell? w' _ x0); clear hS; go_simp; first | done | exact rfl)); (case putsa9 => (first | (simp only [Act.put, List.setIfInBounds_toArray, List.set_cons_zero, List.set_cons_succ]; first | done | exact rfl) | rfl)); (case' nextsa9 => skip))
      (refine' GG.grow_lit (GG.S2.still (by decide)) rfl ?wtsa10 ?runsa10 ?putsa10 ?nextsa10; (case wtsa10 => rfl); (case runsa10 => (intro w' hS; (obtain ⟨dn, s, hS⟩ := hS); (obtain ⟨c0, c1, c2, -, -, -⟩ := (K0.out.keep hS.b).o3); (have x0 := keep hS.b X0.out); (have y0 := hS.c); (have hl0 := World.block_lt_of_cell? w' _ x0); clear hS; go_simp; first | done | exact rfl)); (case putsa10 => (first | (simp only [Act.put, List.setIfInBounds_toArray, List.set_cons_zero, List.set_cons_succ]; first | done | exact rfl) | rfl)); (case' nextsa10 => skip))
      (refine' GG.grow_lit (GG.S2.still (by decide)) rfl ?wtsa11 ?runsa11 ?putsa11 ?nextsa11; (case wtsa11 => rfl); (case runsa11 => (intro w' hS; (obtain ⟨dn, s, hS⟩ := hS); (obtain ⟨c0, c1, c2, -, -, -⟩ := (K0.out.keep hS.b).o3); (have x0 := keep hS.b X0.out); (have y0 := hS.c); (have hl0 := World.block_lt_of_cell? w' _ x0); clear hS; go_simp; first | done | exact rfl)); (case putsa11 => (first | (simp only [Act.put, List.setIfInBounds_toArray, List.set_cons_zero, List.set_cons_succ]; first | done | exact rfl) | rfl)); (case' nextsa11 => skip))
      (refine' GG.grow_lit (GG.S2.still (by decide)) rfl ?wtsa12 ?runsa12 ?putsa12 ?nextsa12; (case wtsa12 => rfl); (case runsa12 => (intro w' hS; (obtain ⟨dn, s, hS⟩ := hS); (obtain ⟨c0, c1, c2, -, -, -⟩ := (K0.out.keep hS.b).o3); (have x0 := keep hS.b X0.out); (have y0 := hS.c); (have hl0 := World.block_lt_of_cell? w' _ x0); clear hS; go_simp; first | done | exact rfl)); (case putsa12 => (first | (simp only [Act.put, List.setIfInBounds_toArray, List.set_cons_zero, List.set_cons_succ]; first | done | exact rfl) | rfl)); (case' nextsa12 => skip))
      (refine' GG.grow_lit (GG.S2.still (by decide)) rfl ?wtsa13 ?runsa13 ?putsa13 ?nextsa13; (case wtsa13 => rfl); (case runsa13 => (intro w' hS; (obtain ⟨dn, s, hS⟩ := hS); (obtain ⟨c0, c1, c2, -, -, -⟩ := (K0.out.keep hS.b).o3); (have x0 := keep hS.b X0.out); (have y0 := hS.c); (have hl0 := World.block_lt_of_cell? w' _ x0); clear hS; go_simp; first | done | exact rfl)); (case putsa13 => (first | (simp only [Act.put, List.setIfInBounds_toArray, List.set_cons_zero, List.set_cons_succ]; first | done | exact rfl) | rfl)); (case' nextsa13 => skip))
      (refine' GG.grow_lit (GG.S2.still (by decide)) rfl ?wtsa14 ?runsa14 ?putsa14 ?nextsa14; (case wtsa14 => rfl); (case runsa14 => (intro w' hS; (obtain ⟨dn, s, hS⟩ := hS); (obtain ⟨c0, c1, c2, -, -, -⟩ := (K0.out.keep hS.b).o3); (have x0 := keep hS.b X0.out); (have y0 := hS.c); (have hl0 := World.block_lt_of_cell? w' _ x0); clear hS; go_simp; first | done | exact rfl)); (case putsa14 => (first | (simp only [Act.put, List.setIfInBounds_toArray, List.set_cons_zero, List.set_cons_succ]; first | done | exact rfl) | rfl)); (case' nextsa14 => skip))
      (refine' GG.grow_lit (GG.S2.still (by decide)) rfl ?wtsa15 ?runsa15 ?putsa15 ?nextsa15; (case wtsa15 => rfl); (case runsa15 => (intro w' hS; (obtain ⟨dn, s, hS⟩ := hS); (obtain ⟨c0, c1, c2, -, -, -⟩ := (K0.out.keep hS.b).o3); (have x0 := keep hS.b X0.out); (have y0 := hS.c); (have hl0 := World.block_lt_of_cell? w' _ x0); clear hS; go_simp; first | done | exact rfl)); (case putsa15 => (first | (simp only [Act.put, List.setIfInBounds_toArray, List.set_cons_zero, List.set_cons_succ]; first | done | exact rfl) | rfl)); (case' nextsa15 => skip))
      (refine' GG.grow_lit (GG.S2.still (by decide)) rfl ?wtsa16 ?runsa16 ?putsa16 ?nextsa16; (case wtsa16 => rfl); (case runsa16 => (intro w' hS; (obtain ⟨dn, s, hS⟩ := hS); (obtain ⟨c0, c1, c2, -, -, -⟩ := (K0.out.keep hS.b).o3); (have x0 := keep hS.b X0.out); (have y0 := hS.c); (have hl0 := World.block_lt_of_cell? w' _ x0); clear hS; go_simp; first | done | exact rfl)); (case putsa16 => (first | (simp only [Act.put, List.setIfInBounds_toArray, List.set_cons_zero, List.set_cons_succ]; first | done | exact rfl) | rfl)); (case' nextsa16 => skip))
      (refine' GG.grow_any_op (p := GG.LitI k) (hp := GG.LitI.st k) rfl ?wtsa17 ?runsa17 ?putsa17 ?nextsa17; (case wtsa17 => rfl); (case runsa17 => (intro dn s w' hS hd H; (refine ⟨.slice (some ⟨w'.heap.size, 0, none⟩) 1 1, s, w'.alloc (.cells #[.int .i64 k] 3), ?_, fun _ => ⟨w'.heap.size, rfl, Blk.new _ _ _ _ rfl⟩, (hS.step (by decide)).old (below_new _), ⟨id, fun _ => below_new _⟩, (below_new _).size⟩; clear hS hd H; go_simp))); (case putsa17 => (intro v; (simp only [Act.put, List.setIfInBounds_toArray, List.set_cons_zero, List.set_cons_succ]; first | done | exact rfl))); (case' nextsa17 => intro v17))
      (refine' GG.grow_any_op (p := GG.App2 n.v.length (fun i => outsL (n.a.take (k + 1)) (i : Int)) (fun i => insL (n.a.take k) (i : Int)) W0.heap.size b1 b2 kf W0) (hp := GG.App2.st n.v.length (fun i => outsL (n.a.take (k + 1)) (i : Int)) (fun i => insL (n.a.take k) (i : Int)) W0.heap.size b1 b2 kf W0) rfl ?wtsa18 ?runsa18 ?putsa18 ?nextsa18; (case wtsa18 => rfl); (case runsa18 => (intro dn s w' hS hd H; (obtain rfl : s = false := hS.here.symm.trans hd); (obtain ⟨g, e17, kg⟩ := (show GG.LitI k v17 false w' from H 17 (by decide)) rfl); (obtain ⟨q', n', c', w7, hr, hP, hz, hc7⟩ := (hS.r rfl).app (L1' := (fun i => outsL (n.a.take (k + 1)) (i : Int))) (v := kf) (x := (k : Int)) hS.c kg HVV.out HLL.out HLA.out HLO.out); subst e17; exact ⟨_, true, w7, GG.exec_append (.tmp 46) (.tmp 48) 43 rfl rfl rfl hr, ⟨rfl, ⟨_, _, _, rfl⟩, hP⟩, ⟨rfl, (fun h => by cases h), hP.below, hP.size, hc7⟩, ⟨fun _ => rfl, fun h => by cases h⟩, hz⟩)); (case putsa18 => (intro v; (simp only [Act.put, List.setIfInBounds_toArray, List.set_cons_zero, List.set_cons_succ]; first | done | exact rfl))); (case' nextsa18 => intro v18))
      (refine' GG.grow_lit (GG.S2.still (by decide)) rfl ?wtsa19 ?runsa19 ?putsa19 ?nextsa19; (case wtsa19 => rfl); (case runsa19 => (intro w' hS; (obtain ⟨dn, s, hS⟩ := hS); (obtain ⟨c0, c1, c2, -, -, -⟩ := (K0.out.keep hS.b).o3); (have x0 := keep hS.b X0.out); (have y0 := hS.c); (have hl0 := World.block_lt_of_cell? w' _ x0); clear hS; go_simp; first | done | exact rfl)); (case putsa19 => (first | (simp only [Act.put, List.setIfInBounds_toArray, List.set_cons_zero, List.set_cons_succ]; first | done | exact rfl) | rfl)); (case' nextsa19 => skip))
      intro dn s w7 hS7 _ hk7
      obtain ⟨-, ⟨qz, nz, cz, rfl⟩, hP⟩ : GG.App2 n.v.length (fun i => outsL (n.a.take (k + 1)) (i : Int)) (fun i => insL (n.a.take k) (i : Int)) W0.heap.size b1 b2 kf W0 v18 s w7 := hk7 18 (by decide)
      obtain ⟨⟨uo, hc7⟩, hf7, hl7, hnew⟩ := hP.put
      have HNEW := Lib.hid hnew
      clear hk7 hS7 hP hnew
      refine wpAny_ready (rs := [20]) (by kernel_rfl) (by simp) (AllReady.cons rfl (fun K hK => ?_) AllReady.nil)
      go_simp
      refine hK _ _ ?_
      clear hK K
      refine wpAny_done (by kernel_rfl) ?_ _
      clear hc7 hf7 hl7
      obtain ⟨W7, hW7⟩ := named (w7.setCell ⟨b1, kf, none⟩ (.slice qz nz cz))
      rw [← hW7] at HNEW ⊢
      have TR7 := Lib.hid HNEW.out.swap
      clear hW7 HNEW SA0 HLL HLA HLO HVV HLK TR
      have HVV := HVT
      have HLK : Hid ((insL (n.a.take k) (kt : Int)).length ≤ 100000) := Lib.hid (idx_short HA16.out)
      obtain ⟨qx, cx, hcx, -⟩ := TR7.out.row HVV.out HLK.out
      obtain ⟨LL, eLL⟩ : ∃ LL, (insL (n.a.take k) (kt : Int)).length = LL := ⟨_, rfl⟩
      have SA0 : Hid (GG.S2 18 n.v.length (fun i => insL (n.a.take k) (i : Int)) (fun i => outsL (n.a.take (k + 1)) (i : Int)) W0.heap.size b2 b1 kt (.slice qx LL cx) W0 (fun _ => false) false W7.drew) := Lib.hid ⟨rfl, fun _ => TR7.out.old (Below.refl _ _).drew, TR7.out.below.trans ((Below.refl _ _).drew.mono TR7.out.size), TR7.out.size, by rw [← eLL]; exact hcx⟩
      have HLL := HLK
      have HLA : Hid (insL (n.a.take (k + 1)) (kt : Int) = insL (n.a.take k) (kt : Int) ++ [(k : Int)]) := Lib.hid (by rw [HSI.out, if_pos rfl])
      have HLO : Hid (∀ i : Nat, i ≠ kt → insL (n.a.take (k + 1)) (i : Int) = insL (n.a.take k) (i : Int)) := Lib.hid (fun i hi => by rw [HSI.out, if_neg (by omega), List.append_nil])
      clear hcx eLL
      go_wp2_with fail
      refine' GG.wp_thenL _ 20 (GG.S2 18 n.v.length (fun i => insL (n.a.take k) (i : Int)) (fun i => outsL (n.a.take (k + 1)) (i : Int)) W0.heap.size b2 b1 kt (.slice qx LL cx) W0) [[], [], [1], [], [1, 2, 3], [1, 2, 3, 4], [1, 2, 3, 4, 5], [], [], [8], [], [8, 9, 10], [8, 9, 10, 11], [8, 9, 10, 11, 12], [7, 8, 9, 10, 11, 12, 13], [7, 8, 9, 10, 11, 12, 13, 14], [], [16], [7, 8, 9, 10, 11, 12, 13, 14, 15, 16, 17], [0, 1, 2, 3, 4, 5, 6, 7, 8, 9, 10, 11, 12, 13, 14, 15, 16, 17, 18]] (GG.Fact.lit (Rl := GG.RlA) _ :: GG.Fact.lit (Rl := GG.RlA) _ :: GG.Fact.lit (Rl := GG.RlA) _ :: GG.Fact.lit (Rl := GG.RlA) _ :: GG.Fact.lit (Rl := GG.RlA) _ :: GG.Fact.lit (Rl := GG.RlA) _ :: GG.Fact.lit (Rl := GG.RlA) _ :: GG.Fact.lit (Rl := GG.RlA) _ :: GG.Fact.lit (Rl := GG.RlA) _ :: GG.Fact.lit (Rl := GG.RlA) _ :: GG.Fact.lit (Rl := GG.RlA) _ :: GG.Fact.lit (Rl := GG.RlA) _ :: GG.Fact.lit (Rl := GG.RlA) _ :: GG.Fact.lit (Rl := GG.RlA) _ :: GG.Fact.lit (Rl := GG.RlA) _ :: GG.Fact.lit (Rl := GG.RlA) _ :: GG.Fact.lit (Rl := GG.RlA) _ :: GG.Fact.prop (Rl := GG.RlA) _ _ :: GG.Fact.prop (Rl := GG.RlA) _ _ :: GG.Fact.lit (Rl := GG.RlA) _ :: []) (by kernel_rfl) rfl (by kernel_rfl) (false) (SA0.out) ?seqsb
      case' seqsb => skip
      (refine' GG.grow_lit (GG.S2.still (by decide)) rfl ?wtsb0 ?runsb0 ?putsb0 ?nextsb0; (case wtsb0 => rfl); (case runsb0 => (intro w' hS; (obtain ⟨dn, s, hS⟩ := hS); (obtain ⟨c0, c1, c2, -, -, -⟩ := (K0.out.keep hS.b).o3); (have x0 := keep hS.b X1.out); (have y0 := hS.c); (have hl0 := World.block_lt_of_cell? w' _ x0); clear hS; go_simp; first | done | exact rfl)); (case putsb0 => (first | (simp only [Act.put, List.setIfInBounds_toArray, List.set_cons_zero, List.set_cons_succ]; first | done | exact rfl) | rfl)); (case' nextsb0 => skip))
      (refine' GG.grow_lit (GG.S2.still (by decide)) rfl ?wtsb1 ?runsb1 ?putsb1 ?nextsb1; (case wtsb1 => rfl); (case runsb1 => (intro w' hS; (obtain ⟨dn, s, hS⟩ := hS); (obtain ⟨c0, c1, c2, -, -, -⟩ := (K0.out.keep hS.b).o3); (have x0 := keep hS.b X1.out); (have y0 := hS.c); (have hl0 := World.block_lt_of_cell? w' _ x0); clear hS; go_simp; first | done | exact rfl)); (case putsb1 => (first | (simp only [Act.put, List.setIfInBounds_toArray, List.set_cons_zero, List.set_cons_succ]; first | done | exact rfl) | rfl)); (case' nextsb1 => skip))
      (refine' GG.grow_lit (GG.S2.still (by decide)) rfl ?wtsb2 ?runsb2 ?putsb2 ?nextsb2; (case wtsb2 => rfl); (case runsb2 => (intro w' hS; (obtain ⟨dn, s, hS⟩ := hS); (obtain ⟨c0, c1, c2, -, -, -⟩ := (K0.out.keep hS.b).o3); (have x0 := keep hS.b X1.out); (have y0 := hS.c); (have hl0 := World.block_lt_of_cell? w' _ x0); clear hS; go_simp; first | done | exact rfl)); (case putsb2 => (first | (simp only [Act.put, List.setIfInBounds_toArray, List.set_cons_zero, List.set_cons_succ]; first | done | exact rfl) | rfl)); (case' nextsb2 => skip))
      (refine' GG.grow_lit (GG.S2.still (by decide)) rfl ?wtsb3 ?runsb3 ?putsb3 ?nextsb3; (case wtsb3 => rfl); (case runsb3 => (intro w' hS; (obtain ⟨dn, s, hS⟩ := hS); (obtain ⟨c0, c1, c2, -, -, -⟩ := (K0.out.keep hS.b).o3); (have x0 := keep hS.b X1.out); (have y0 := hS.c); (have hl0 := World.block_lt_of_cell? w' _ x0); clear hS; go_simp; first | done | exact rfl)); (case putsb3 => (first | (simp only [Act.put, List.setIfInBounds_toArray, List.set_cons_zero, List.set_cons_succ]; first | done | exact rfl) | rfl)); (case' nextsb3 => skip))
      (refine' GG.grow_lit (GG.S2.still (by decide)) rfl ?wtsb4 ?runsb4 ?putsb4 ?nextsb4; (case wtsb4 => rfl); (case runsb4 => (intro w' hS; (obtain ⟨dn, s, hS⟩ := hS); (obtain ⟨c0, c1, c2, -, -, -⟩ := (K0.out.keep hS.b).o3); (have x0 := keep hS.b X1.out); (have y0 := hS.c); (have hl0 := World.block_lt_of_cell? w' _ x0); clear hS; go_simp; first | done | exact rfl)); (case putsb4 => (first | (simp only [Act.put, List.setIfInBounds_toArray, List.set_cons_zero, List.set_cons_succ]; first | done | exact rfl) | rfl)); (case' nextsb4 => skip))
      (refine' GG.grow_lit (GG.S2.still (by decide)) rfl ?wtsb5 ?runsb5 ?putsb5 ?nextsb5; (case wtsb5 => rfl); (case runsb5 => (intro w' hS; (obtain ⟨dn, s, hS⟩ := hS); (obtain ⟨c0, c1, c2, -, -, -⟩ := (K0.out.keep hS.b).o3); (have x0 := keep hS.b X1.out); (have y0 := hS.c); (have hl0 := World.block_lt_of_cell? w' _ x0); clear hS; go_simp; first | done | exact rfl)); (case putsb5 => (first | (simp only [Act.put, List.setIfInBounds_toArray, List.set_cons_zero, List.set_cons_succ]; first | done | exact rfl) | rfl)); (case' nextsb5 => skip))
      (refine' GG.grow_lit (GG.S2.still (by decide)) rfl ?wtsb6 ?runsb6 ?putsb6 ?nextsb6; (case wtsb6 => rfl); (case runsb6 => (intro w' hS; (obtain ⟨dn, s, hS⟩ := hS); (obtain ⟨c0, c1, c2, -, -, -⟩ := (K0.out.keep hS.b).o3); (have x0 := keep hS.b X1.out); (have y0 := hS.c); (have hl0 := World.block_lt_of_cell? w' _ x0); clear hS; go_simp; first | done | exact rfl)); (case putsb6 => (first | (simp only [Act.put, List.setIfInBounds_toArray, List.set_cons_zero, List.set_cons_succ]; first | done | exact rfl) | rfl)); (case' nextsb6 => skip))
      (refine' GG.grow_lit (GG.S2.still (by decide)) rfl ?wtsb7 ?runsb7 ?putsb7 ?nextsb7; (case wtsb7 => rfl); (case runsb7 => (intro w' hS; (obtain ⟨dn, s, hS⟩ := hS); (obtain ⟨c0, c1, c2, -, -, -⟩ := (K0.out.keep hS.b).o3); (have x0 := keep hS.b X1.out); (have y0 := hS.c); (have hl0 := World.block_lt_of_cell? w' _ x0); clear hS; go_simp; first | done | exact rfl)); (case putsb7 => (first | (simp only [Act.put, List.setIfInBounds_toArray, List.set_cons_zero, List.set_cons_succ]; first | done | exact rfl) | rfl)); (case' nextsb7 => skip))
      (refine' GG.grow_lit (GG.S2.still (by decide)) rfl ?wtsb8 ?runsb8 ?putsb8 ?nextsb8; (case wtsb8 => rfl); (case runsb8 => (intro w' hS; (obtain ⟨dn, s, hS⟩ := hS); (obtain ⟨c0, c1, c2, -, -, -⟩ := (K0.out.keep hS.b).o3); (have x0 := keep hS.b X1.out); (have y0 := hS.c); (have hl0 := World.block_lt_of_cell? w' _ x0); clear hS; go_simp; first | done | exact rfl)); (case putsb8 => (first | (simp only [Act.put, List.setIfInBounds_toArray, List.set_cons_zero, List.set_cons_succ]; first | done | exact rfl) | rfl)); (case' nextsb8 => skip))
      (refine' GG.grow_lit (GG.S2.still (by decide)) rfl ?wtsb9 ?runsb9 ?putsb9 ?nextsb9; (case wtsb9 => rfl); (case runsb9 => (intro w' hS; (obtain ⟨dn, s, hS⟩ := hS); (obtain ⟨c0, c1, c2, -, -, -⟩ := (K0.out.keep hS.b).o3); (have x0 := keep hS.b X1.out); (have y0 := hS.c); (have hl0 := World.block_lt_of_cell? w' _ x0); clear hS; go_simp; first | done | exact rfl)); (case putsb9 => (first | (simp only [Act.put, List.setIfInBounds_toArray, List.set_cons_zero, List.set_cons_succ]; first | done | exact rfl) | rfl)); (case' nextsb9 => skip))
      (refine' GG.grow_lit (GG.S2.still (by decide)) rfl ?wtsb10 ?runsb10 ?putsb10 ?nextsb10; (case wtsb10 => rfl); (case runsb10 => (intro w' hS; (obtain ⟨dn, s, hS⟩ := hS); (obtain ⟨c0, c1, c2, -, -, -⟩ := (K0.out.keep hS.b).o3); (have x0 := keep hS.b X1.out); (have y0 := hS.c); (have hl0 := World.block_lt_of_cell? w' _ x0); clear hS; go_simp; first | done | exact rfl)); (case putsb10 => (first | (simp only [Act.put, List.setIfInBounds_toArray, List.set_cons_zero, List.set_cons_succ]; first | done | exact rfl) | rfl)); (case' nextsb10 => skip))
      (refine' GG.grow_lit (GG.S2.still (by decide)) rfl ?wtsb11 ?runsb11 ?putsb11 ?nextsb11; (case wtsb11 => rfl); (case runsb11 => (intro w' hS; (obtain ⟨dn, s, hS⟩ := hS); (obtain ⟨c0, c1, c2, -, -, -⟩ := (K0.out.keep hS.b).o3); (have x0 := keep hS.b X1.out); (have y0 := hS.c); (have hl0 := World.block_lt_of_cell? w' _ x0); clear hS; go_simp; first | done | exact rfl)); (case putsb11 => (first | (simp only [Act.put, List.setIfInBounds_toArray, List.set_cons_zero, List.set_cons_succ]; first | done | exact rfl) | rfl)); (case' nextsb11 => skip))
      (refine' GG.grow_lit (GG.S2.still (by decide)) rfl ?wtsb12 ?runsb12 ?putsb12 ?nextsb12; (case wtsb12 => rfl); (case runsb12 => (intro w' hS; (obtain ⟨dn, s, hS⟩ := hS); (obtain ⟨c0, c1, c2, -, -, -⟩ := (K0.out.keep hS.b).o3); (have x0 := keep hS.b X1.out); (have y0 := hS.c); (have hl0 := World.block_lt_of_cell? w' _ x0); clear hS; go_simp; first | done | exact rfl)); (case putsb12 => (first | (simp only [Act.put, List.setIfInBounds_toArray, List.set_cons_zero, List.set_cons_succ]; first | done | exact rfl) | rfl)); (case' nextsb12 => skip))
      (refine' GG.grow_lit (GG.S2.still (by decide)) rfl ?wtsb13 ?runsb13 ?putsb13 ?nextsb13; (case wtsb13 => rfl); (case runsb13 => (intro w' hS; (obtain ⟨dn, s, hS⟩ := hS); (obtain ⟨c0, c1, c2, -, -, -⟩ := (K0.out.keep hS.b).o3); (have x0 := keep hS.b X1.out); (have y0 := hS.c); (have hl0 := World.block_lt_of_cell? w' _ x0); clear hS; go_simp; first | done | exact rfl)); (case putsb13 => (first | (simp only [Act.put, List.setIfInBounds_toArray, List.set_cons_zero, List.set_cons_succ]; first | done | exact rfl) | rfl)); (case' nextsb13 => skip))
      (refine' GG.grow_lit (GG.S2.still (by decide)) rfl ?wtsb14 ?runsb14 ?putsb14 ?nextsb14; (case wtsb14 => rfl); (case runsb14 => (intro w' hS; (obtain ⟨dn, s, hS⟩ := hS); (obtain ⟨c0, c1, c2, -, -, -⟩ := (K0.out.keep hS.b).o3); (have x0 := keep hS.b X1.out); (have y0 := hS.c); (have hl0 := World.block_lt_of_cell? w' _ x0); clear hS; go_simp; first | done | exact rfl)); (case putsb14 => (first | (simp only [Act.put, List.setIfInBounds_toArray, List.set_cons_zero, List.set_cons_succ]; first | done | exact rfl) | rfl)); (case' nextsb14 => skip))
      (refine' GG.grow_lit (GG.S2.still (by decide)) rfl ?wtsb15 ?runsb15 ?putsb15 ?nextsb15; (case wtsb15 => rfl); (case runsb15 => (intro w' hS; (obtain ⟨dn, s, hS⟩ := hS); (obtain ⟨c0, c1, c2, -, -, -⟩ := (K0.out.keep hS.b).o3); (have x0 := keep hS.b X1.out); (have y0 := hS.c); (have hl0 := World.block_lt_of_cell? w' _ x0); clear hS; go_simp; first | done | exact rfl)); (case putsb15 => (first | (simp only [Act.put, List.setIfInBounds_toArray, List.set_cons_zero, List.set_cons_succ]; first | done | exact rfl) | rfl)); (case' nextsb15 => skip))
      (refine' GG.grow_lit (GG.S2.still (by decide)) rfl ?wtsb16 ?runsb16 ?putsb16 ?nextsb16; (case wtsb16 => rfl); (case runsb16 => (intro w' hS; (obtain ⟨dn, s, hS⟩ := hS); (obtain ⟨c0, c1, c2, -, -, -⟩ := (K0.out.keep hS.b).o3); (have x0 := keep hS.b X1.out); (have y0 := hS.c); (have hl0 := World.block_lt_of_cell? w' _ x0); clear hS; go_simp; first | done | exact rfl)); (case putsb16 => (first | (simp only [Act.put, List.setIfInBounds_toArray, List.set_cons_zero, List.set_cons_succ]; first | done | exact rfl) | rfl)); (case' nextsb16 => skip))
      (refine' GG.grow_any_op (p := GG.LitI k) (hp := GG.LitI.st k) rfl ?wtsb17 ?runsb17 ?putsb17 ?nextsb17; (case wtsb17 => rfl); (case runsb17 => (intro dn s w' hS hd H; (refine ⟨.slice (some ⟨w'.heap.size, 0, none⟩) 1 1, s, w'.alloc (.cells #[.int .i64 k] 3), ?_, fun _ => ⟨w'.heap.size, rfl, Blk.new _ _ _ _ rfl⟩, (hS.step (by decide)).old (below_new _), ⟨id, fun _ => below_new _⟩, (below_new _).size⟩; clear hS hd H; go_simp))); (case putsb17 => (intro v; (simp only [Act.put, List.setIfInBounds_toArray, List.set_cons_zero, List.set_cons_succ]; first | done | exact rfl))); (case' nextsb17 => intro v17))
      (refine' GG.grow_any_op (p := GG.App2 n.v.length (fun i => insL (n.a.take (k + 1)) (i : Int)) (fun i => outsL (n.a.take (k + 1)) (i : Int)) W0.heap.size b2 b1 kt W0) (hp := GG.App2.st n.v.length (fun i => insL (n.a.take (k + 1)) (i : Int)) (fun i => outsL (n.a.take (k + 1)) (i : Int)) W0.heap.size b2 b1 kt W0) rfl ?wtsb18 ?runsb18 ?putsb18 ?nextsb18; (case wtsb18 => rfl); (case runsb18 => (intro dn s w' hS hd H; (obtain rfl : s = false := hS.here.symm.trans hd); (obtain ⟨g, e17, kg⟩ := (show GG.LitI k v17 false w' from H 17 (by decide)) rfl); (obtain ⟨q', n', c', w7, hr, hP, hz, hc7⟩ := (hS.r rfl).app (L1' := (fun i => insL (n.a.take (k + 1)) (i : Int))) (v := kt) (x := (k : Int)) hS.c kg HVV.out HLL.out HLA.out HLO.out); subst e17; exact ⟨_, true, w7, GG.exec_append (.tmp 66) (.tmp 68) 43 rfl rfl rfl hr, ⟨rfl, ⟨_, _, _, rfl⟩, hP⟩, ⟨rfl, (fun h => by cases h), hP.below, hP.size, hc7⟩, ⟨fun _ => rfl, fun h => by cases h⟩, hz⟩)); (case putsb18 => (intro v; (simp only [Act.put, List.setIfInBounds_toArray, List.set_cons_zero, List.set_cons_succ]; first | done | exact rfl))); (case' nextsb18 => intro v18))
      (refine' GG.grow_lit (GG.S2.still (by decide)) rfl ?wtsb19 ?runsb19 ?putsb19 ?nextsb19; (case wtsb19 => rfl); (case runsb19 => (intro w' hS; (obtain ⟨dn, s, hS⟩ := hS); (obtain ⟨c0, c1, c2, -, -, -⟩ := (K0.out.keep hS.b).o3); (have x0 := keep hS.b X1.out); (have y0 := hS.c); (have hl0 := World.block_lt_of_cell? w' _ x0); clear hS; go_simp; first | done | exact rfl)); (case putsb19 => (first | (simp only [Act.put, List.setIfInBounds_toArray, List.set_cons_zero, List.set_cons_succ]; first | done | exact rfl) | rfl)); (case' nextsb19 => skip))
      intro dn s w7 hS7 _ hk7
      obtain ⟨-, ⟨qz, nz, cz, rfl⟩, hP⟩ : GG.App2 n.v.length (fun i => insL (n.a.take (k + 1)) (i : Int)) (fun i => outsL (n.a.take (k + 1)) (i : Int)) W0.heap.size b2 b1 kt W0 v18 s w7 := hk7 18 (by decide)
      obtain ⟨⟨uo, hc7⟩, hf7, hl7, hnew⟩ := hP.put
      have HNEW := Lib.hid hnew
      clear hk7 hS7 hP hnew
      refine wpAny_ready (rs := [20]) (by kernel_rfl) (by simp) (AllReady.cons rfl (fun K hK => ?_) AllReady.nil)
      go_simp
      refine hK _ _ ?_
      clear hK K
      refine wpAny_done (by kernel_rfl) ?_ _
      clear hc7 hf7 hl7
      obtain ⟨W8, hW8⟩ := named (w7.setCell ⟨b2, kt, none⟩ (.slice qz nz cz))
      rw [← hW8] at HNEW ⊢
      have TR8 := Lib.hid HNEW.out.swap
      clear hW8 HNEW SA0 HLL HLA HLO HVV HLK TR7
      go_wp2_with fail
      go_roundw
      case rel => exact ⟨k + 1, by omega, by go_num, TR8⟩
      case measure => simp [intOf]; omega
    · obtain rfl : k = n.a.length := by omega
      have hli : ¬ (n.a.length : Int) < (n.a.length : Int) := by omega
      obtain ⟨WL, rfl⟩ : ∃ W, W = wr := ⟨_, rfl⟩
      have hTR := TR.out
      simp only [List.take_length] at hTR
      have TL := Lib.hid hTR
      have HA16 : Hid (n.a.length ≤ 16384) := Lib.hid (by omega)
      have BWL := Lib.hid hTR.below
      have zL := hTR.size
      have KNL := Lib.hid (K0.out.keep BWL.out)
      have KQL := Lib.hid (KQ.out.keep BWL.out)
      have KRL := Lib.hid (KR.out.keep BWL.out)
      have HSW := HS
      have HBWL : Hid (Below w.heap.size w WL) := Lib.hid (B0.out.trans (BWL.out.mono (by omega)))
      clear K0 KQ KR
      obtain ⟨kq, hkq⟩ : ∃ b, w.heap.size + 1 = b := ⟨_, rfl⟩
      rw [hkq]
      rw [hkq] at KQL KRL
      obtain ⟨kr, hkr⟩ : ∃ b, kq + 1 = b := ⟨_, rfl⟩
      rw [hkr]
      rw [hkr] at KRL
      have ZKR : Hid (w.heap.size < kq ∧ kq < kr ∧ kr < W0.heap.size) := Lib.hid ⟨by omega, by omega, by omega⟩
      have OS0 : Hid (OfS n WL kr (.slice vq n.v.length vc) (.slice aq n.a.length ac) (.slice tq n.t.length tc) 0 WL) := Lib.hid ⟨Keep.refl _ _, _, _, KRL.out, ⟨[], rfl, World.ownsRow_nil _ _ _ _, fun i x hi => by simp at hi⟩, ⟨[], rfl, World.ownsRow_nil _ _ _ _, fun i x hi => by simp at hi⟩⟩
      have ZW := Lib.hid z0
      have ZL := Lib.hid zL
      obtain ⟨c0, c1, c2, -, -, -⟩ := KNL.out.o3
      go_wp2_with fail
      clear c0 c1 c2 TR hTR hkq hkr hli KRL z0 zL
      have HBV : Hid (∀ wr, Keep (fun b => b ≠ kr) WL wr → Below w.heap.size w wr) := Lib.hid (fun wr hk => HBWL.out.trans (hk.below (fun b hb => by have := ZKR.out; omega) HBWL.out.size))
      go_loopw [7, 8, 9, 10, 11, 12, 13] (fun i _ _ _ _ _ _ wr => ∃ k : Nat, k ≤ n.a.length ∧ i = .int .i64 k ∧ Hid (OfS n WL kr (.slice vq n.v.length vc) (.slice aq n.a.length ac) (.slice tq n.t.length tc) k wr)) (fun i _ _ _ _ _ _ _ => n.a.length - (intOf i).toNat)
      case atStart => exact ⟨0, Nat.zero_le _, rfl, OS0⟩
      case round =>
        obtain ⟨k, hk, rfl, OS⟩ := hrel
        clear OS0
        by_cases hlt : k < n.a.length
        · have hli : (k : Int) < (n.a.length : Int) := by omega
          have HBW := Lib.hid (HBV.out _ OS.out.kp)
          have KN := Lib.hid (OS.out.kp.blk KNL.out (by have := ZKR.out; omega))
          have HSR : Hid (NetS wr n vq aq tq vc ac tc) := Lib.hid (HSI0.out.below HBW.out)
          obtain ⟨ab, ao, rfl, x0, x1, x2⟩ := HSR.out.a.at hlt
          obtain ⟨g0, g1, g2, g3⟩ := HN.out.good.arcsIn k hlt
          obtain ⟨kt, ekt⟩ : ∃ kt : Nat, n.a[k].2.1 = kt := ⟨n.a[k].2.1.toNat, by omega⟩
          have hkt : kt < n.v.length := by omega
          have hvi : (kt : Int) < (n.v.length : Int) := by omega
          obtain ⟨-, -, gt0, gt1⟩ := HN.out.good.verts kt hkt
          obtain ⟨ky, eky⟩ : ∃ ky : Nat, n.v[kt].2.2 = ky := ⟨n.v[kt].2.2.toNat, by omega⟩
          have hky : ky < n.t.length := by omega
          have hyi : (ky : Int) < (n.t.length : Int) := by omega
          rw [ekt] at x1
          obtain ⟨vb, vo, rfl, -, -, y2⟩ := HSR.out.v.at hkt
          rw [eky] at y2
          obtain ⟨tb, tO, tu, rfl, t0, t1, t2, ht⟩ := HSR.out.t.at hky
          have htab := HN.out.good.tabs ky hky
          obtain ⟨T, eT⟩ : ∃ T, n.t[ky] = T := ⟨_, rfl⟩
          rw [eT] at t0 t1 ht htab
          obtain ⟨qq0, qq1, qq2, qq3, hTn, -⟩ := chkT_ok (I := T.1) (O := T.2.1) (l := T.2.2) (by rw [htab])
          obtain ⟨tq', tc', rfl⟩ := ht.shape
          have HTN := Lib.hid hTn
          have HTQ := Lib.hid (And.intro qq0 (And.intro qq1 (And.intro qq2 qq3)))
          have HARC : Hid ((n.arc k).2.1 = (kt : Int)) := Lib.hid (by rw [NetGood.arc_at k hlt]; exact ekt)
          obtain ⟨PI, hPI⟩ : ∃ PI, placeL (insL n.a (kt : Int)) (k : Int) = PI := ⟨_, rfl⟩
          have HPI := Lib.hid hPI
          have HTURN : Hid (∀ (z j : Nat), z < n.a.length → n.a[z]?.map (·.1) = some (kt : Int) → placeL (outsL n.a (kt : Int)) z = j → n.turn k z = turnAt T.1 T.2.1 T.2.2 PI j) := Lib.hid (fun z j hz ez ej => by
            rw [List.getElem?_eq_getElem hz] at ez
            have ez' : n.a[z].1 = (kt : Int) := by simpa using ez
            rw [turn_meet hlt hz (by rw [ekt, ez']) hkt ekt hky eky, eT, inP_at hlt, outP_at hz, ← place_ins n.a hlt rfl, ← place_outs n.a hz rfl, ekt, ez', hPI, ej])
          have hlo : (outsL n.a (kt : Int)).length ≤ 100000 := by have := idx_short (p := fun x => decide (x.1 = (kt : Int))) (k := n.a.length) HA16.out; rw [List.take_length] at this; exact this
          have hlj : (insL n.a (kt : Int)).length ≤ 100000 := by have := idx_short (p := fun x => decide (x.2.1 = (kt : Int))) (k := n.a.length) HA16.out; rw [List.take_length] at this; exact this
          obtain ⟨qo, co, hRO⟩ := TL.out.rowK hkt hlo (kr := kr) (by have := ZKR.out; omega)
          obtain ⟨qi, ci, hRI⟩ := TL.out.swap.rowK hkt hlj (kr := kr) (by have := ZKR.out; omega)
          have HRO := Lib.hid hRO
          obtain ⟨ri, RI, lri⟩ := hRI wr OS.out.kp
          obtain ⟨ro, -, lro⟩ := hRO wr OS.out.kp
          have HRI := Lib.hid RI
          have XY2 := Lib.hid y2
          have XT0 := Lib.hid t0
          have XT1 := Lib.hid t1
          have XT2 := Lib.hid t2
          have HTT := Lib.hid ht
          obtain ⟨NO, hNO⟩ : ∃ N, (outsL n.a (kt : Int)).length = N := ⟨_, rfl⟩
          rw [hNO] at hlo ro
          have HNO := Lib.hid hNO
          clear x0 x2 g0 g1 g2 g3 ekt gt0 gt1 eky y2 t0 t1 t2 ht htab eT qq0 qq1 qq2 qq3 hTn hPI hRO hRI RI hlj hNO
          obtain ⟨c0, c1, c2, -, -, -⟩ := KN.out.o3
          have lab := World.block_lt_of_cell? wr _ x1
          go_wp2_with (go_at_call 19; refine (rplace_any _ _ _ _ HRI.out).mono ?_; rintro e w1 ⟨rfl, rfl⟩; rw [HPI.out])
          clear c0 c1 c2 x1 lab ri lri ro lro hli
          obtain ⟨WR, rfl⟩ : ∃ W, W = wr := ⟨_, rfl⟩
          go_loopw [10, 11, 12, 13] (fun x y i _ wr => ∃ j : Nat, j ≤ NO ∧ i = .int .i64 j ∧ Hid (wr.ownsRow WR.heap.size 3 1 x (nxtT n k j).length ((nxtT n k j).map (Value.int .i64))) ∧ Hid (wr.ownsRow WR.heap.size 2 1 y ((nxtT n k j).map (fun b => n.turn k b)).length (((nxtT n k j).map (fun b => n.turn k b)).map (Value.int .i64))) ∧ Hid (Below WR.heap.size WR wr)) (fun _ _ i _ _ => NO - (intOf i).toNat)
          case atStart => exact ⟨0, Nat.zero_le _, rfl, Lib.hid (World.ownsRow_nil _ _ _ _), Lib.hid (World.ownsRow_nil _ _ _ _), Lib.hid (Below.refl _ _)⟩
          case round =>
            obtain ⟨j, hj, rfl, OX, OY, BW⟩ := hrel
            have KP := Lib.hid (OS.out.kp.trans (Keep.of BW.out))
            obtain ⟨ro, RO, lro⟩ := HRO.out _ KP.out
            rw [HNO.out] at ro RO
            have KNs := Lib.hid (KN.out.keep BW.out)
            by_cases hlj : j < NO
            · have hji : (j : Int) < (NO : Int) := by omega
              obtain ⟨z, hz, ez, ez2, ez3⟩ := outs_at (a := n.a) (v := (kt : Int)) (i := j) (by rw [HNO.out]; exact hlj)
              obtain ⟨C, hC⟩ : ∃ C, turnAt T.1 T.2.1 T.2.2 PI (j : Int) = C := ⟨_, rfl⟩
              have HC := Lib.hid hC
              have HTC : Hid (n.turn k z = C) := Lib.hid (by rw [HTURN.out z j hz (by rw [List.getElem?_eq_getElem hz]; simp [ez2]) ez3, hC])
              have HSU : Hid (nxtT n k (j + 1) = nxtT n k j ++ (if C = 1152921504606846976 then [] else [(z : Int)])) := Lib.hid (by rw [nxtT_succ HARC.out (by rw [HNO.out]; exact hlj) ez, HTC.out])
              obtain ⟨rb, rO, erq, rz⟩ := RO.at (by rw [HNO.out]; exact hlj)
              subst erq
              rw [ez] at rz
              have lrz := World.block_lt_of_cell? wr _ rz
              have HRO1 := Lib.hid ro
              have HRZ := Lib.hid rz
              have XY := Lib.hid (keep BW.out XY2.out)
              have XA := Lib.hid (keep BW.out XT0.out)
              have XB := Lib.hid (keep BW.out XT1.out)
              have XC := Lib.hid (keep BW.out XT2.out)
              have XD := Lib.hid (HTT.out.below BW.out)
              have hlx : (nxtT n k j).length ≤ 100000 := Nat.le_trans nxtT_len (by omega)
              have HLX := Lib.hid hlx
              clear ez ez2 ez3 hC RO hlx hz
              obtain ⟨c0, c1, c2, -, -, -⟩ := KNs.out.o3
              go_wp2_with fail
              clear c0 c1 c2 ro rz lro lrz
              have hGS : Grows (fun w' => Below wr.heap.size wr w') := Grows.below wr
              refine' wp_growL _ (fun w' => Below wr.heap.size wr w') [[], [0], [], [2], [], [3, 4], [5], [6], [1, 7], [8], [], [], [9, 10, 11], [12]] (Fact.lit _ :: Fact.lit _ :: Fact.lit _ :: Fact.lit _ :: Fact.lit _ :: Fact.lit _ :: Fact.lit _ :: Fact.lit _ :: Fact.lit _ :: Fact.lit _ :: Fact.lit _ :: Fact.lit _ :: Fact.lit _ :: Fact.lit _ :: []) (by kernel_rfl) rfl (by kernel_rfl) (Below.refl _ _).drew ?seqr19
              case' seqr19 => skip
              iterate 12 ((first | (apply grow_skip; (case hf => rfl); (case hw => rfl)) | (apply grow_lit; (case hf => rfl); (case hw => rfl); (case hrun => (intro w' hS H; clear H; (obtain ⟨c0, c1, c2, -, -, -⟩ := (KNs.out.keep hS).o3); (have xv := keep hS XY.out); (have xt0 := keep hS XA.out); (have xt1 := keep hS XB.out); (have xt2 := keep hS XC.out); (have lv := World.block_lt_of_cell? w' _ xv); (have lt := World.block_lt_of_cell? w' _ xt0); clear hS; go_simp; first | done | exact rfl)))); (case hc => (simp only [Act.put, List.setIfInBounds_toArray, List.set_cons_zero, List.set_cons_succ]; first | done | exact rfl)); (try (case hj => rfl)))
              (refine' grow_call (u := .int .i64 C) rfl Tryz.func26 (by kernel_rfl) rfl hGS rfl ?wt44 ?run44 ?put44 ?next44; (case wt44 => rfl); (case run44 => (intro w' hS H; exact (rturnat_any T.1 T.2.1 _ T.2.2 PI j w' HTQ.out HTN.out (XD.out.below hS)).mono (fun e w2 h => ⟨h.1.trans (by rw [HC.out]), h.2⟩))); (case put44 => (simp only [Act.put, List.setIfInBounds_toArray, List.set_cons_zero, List.set_cons_succ]; first | done | exact rfl)); (case' next44 => skip))
              iterate 1 ((first | (apply grow_skip; (case hf => rfl); (case hw => rfl)) | (apply grow_lit; (case hf => rfl); (case hw => rfl); (case hrun => (intro w' hS H; clear H; skip; clear hS; go_simp; first | done | exact rfl)))); (case hc => (simp only [Act.put, List.setIfInBounds_toArray, List.set_cons_zero, List.set_cons_succ]; first | done | exact rfl)); (try (case hj => rfl)))
              intro w1 hb1 _
              have HB1 := Lib.hid hb1
              have OX1 := Lib.hid (own_old OX.out hb1)
              have OY1 := Lib.hid (own_old OY.out hb1)
              have HBR1 := Lib.hid (bOn6 BW.out hb1)
              have r1 := keep hb1 HRO1.out
              have z1 := keep hb1 HRZ.out
              have lr1 := World.block_lt_of_cell? w1 _ r1
              have lz1 := World.block_lt_of_cell? w1 _ z1
              clear hb1 hGS HRO1 HRZ XY XA XB XC XD HB1
              by_cases hci : C = 1152921504606846976
              · have HE : Hid (nxtT n k (j + 1) = nxtT n k j) := Lib.hid (by rw [HSU.out, if_pos hci, List.append_nil])
                subst hci
                go_wp2_with fail
                go_roundw
                case rel => exact ⟨j + 1, hlj, by go_num, by rw [HE.out]; exact OX1, by rw [HE.out]; exact OY1, HBR1⟩
                case measure => simp [intOf]; omega
              · have HE : Hid (nxtT n k (j + 1) = nxtT n k j ++ [(z : Int)]) := Lib.hid (by rw [HSU.out, if_neg hci])
                have hcb : (C == 1152921504606846976) = false := by simpa using hci
                have hzl : WR.heap.size ≤ w1.heap.size := HBR1.out.size
                obtain ⟨W4, hW4⟩ := named (w1.alloc (.cells #[.int .i64 z] 3))
                have hb4 : Below w1.heap.size w1 W4 := by rw [hW4]; exact below_alloc1 _
                have hk4 : Blk W4 w1.heap.size #[.int .i64 z] 3 := by rw [hW4]; exact Blk.new _ _ _ _ rfl
                obtain ⟨q5, c5, w5, hr5, ho5, hg5⟩ := appI1 (x := (z : Int)) Tryz.underlying43 infoInt (own_old OX1.out hb4) hk4 HLX.out (by have := hb4.size; omega)
                have hB5 : Below WR.heap.size WR w5 := below_grownO (bOn6 HBR1.out hb4) hg5 (fun g hg => own_ge OX1.out g hg)
                have hy5 := own_grown (own_old OY1.out hb4) (own_old OX1.out hb4) hg5 (by decide)
                have hz5 := hB5.size
                obtain ⟨W6, hW6⟩ := named (w5.alloc (.cells #[.int .i64 C] 2))
                have hb6 : Below w5.heap.size w5 W6 := by rw [hW6]; exact below_alloc1 _
                have hk6 : Blk W6 w5.heap.size #[.int .i64 C] 2 := by rw [hW6]; exact Blk.new _ _ _ _ rfl
                obtain ⟨q7, c7, w7, hr7, ho7, hg7⟩ := appI1 (x := C) Tryz.underlying36 infoI64z (own_old hy5 hb6) hk6 (by rw [List.length_map]; exact HLX.out) (by have := hb6.size; omega)
                have e7 : ((nxtT n k j).map (fun b => n.turn k b)).length = (nxtT n k j).length := List.length_map _
                rw [e7] at hr7 ho7
                have HB7 : Hid (Below WR.heap.size WR w7) := Lib.hid (below_grownO (bOn6 hB5 hb6) hg7 (fun g hg => own_ge hy5 g hg))
                have HX7 : Hid (w7.ownsRow WR.heap.size 3 1 (.slice q5 ((nxtT n k j).length + 1) c5) (nxtT n k (j + 1)).length ((nxtT n k (j + 1)).map (Value.int .i64))) := Lib.hid (by rw [HE.out]; exact own_grown (own_old ho5 hb6) (own_old hy5 hb6) hg7 (by decide))
                have HY7 : Hid (w7.ownsRow WR.heap.size 2 1 (.slice q7 ((nxtT n k j).length + 1) c7) ((nxtT n k (j + 1)).map (fun b => n.turn k b)).length (((nxtT n k (j + 1)).map (fun b => n.turn k b)).map (Value.int .i64))) := Lib.hid (by rw [HE.out, List.map_append, List.map_singleton, HTC.out]; exact ho7)
                rw [hW4] at hr5
                rw [hW6] at hr7
                have HR5 := Lib.hid hr5
                have HR7 := Lib.hid hr7
                clear hr5 hr7 hW4 hb4 hk4 ho5 hg5 hy5 hW6 hb6 hk6 ho7 hg7 hB5 OX OY OX1 OY1 HSU HE
                go_wp2_with (at_builtin; first | refine wpList_append_run (by rfl) _ _ _ rfl _ _ _ rfl rfl HR5.out ?_ | refine wpList_append_run (by rfl) _ _ _ rfl _ _ _ rfl rfl HR7.out ?_)
                go_roundw
                case rel => exact ⟨j + 1, hlj, by go_num, HX7, HY7, HB7⟩
                case measure => simp [intOf]; omega
            · have hjn : j = NO := by omega
              have hji : ¬ (j : Int) < (NO : Int) := by omega
              have HEX : Hid (nxtT n k j = nxtL n k) := Lib.hid (nxtT_all HARC.out (by rw [HNO.out]; exact hjn))
              have ox := OX.out
              have oy := OY.out
              rw [HEX.out] at ox oy
              have oy' : wr.ownsRow WR.heap.size 2 1 _ (trnL n k).length ((trnL n k).map (Value.int .i64)) := oy
              obtain ⟨qx', cx', rfl⟩ := own_shape ox
              obtain ⟨qy', cy', rfl⟩ := own_shape oy'
              obtain ⟨u3, u4, bx, R3, R4⟩ := OS.out.box
              have zz := OS.out.kp.size
              have zw := BW.out.size
              have bx1 := bx.keep BW.out
              obtain ⟨W4, hW4⟩ := named (wr.alloc (.cells #[.slice qx' (nxtL n k).length cx'] 43))
              have hb4 : Below wr.heap.size wr W4 := by rw [hW4]; exact below_alloc1 _
              have hk4 : Blk W4 wr.heap.size #[.slice qx' (nxtL n k).length cx'] 43 := by rw [hW4]; exact Blk.new _ _ _ _ rfl
              have z4 := hb4.size
              obtain ⟨q5, c5, w5, hr5, hR5, hg5, hge5, n5, xs5, ho5⟩ := ((R3.below BW.out).below hb4).app Tryz.underlying31 infoRowI (owns_base (own_old ox hb4) zz) hk4 (by decide) (by omega) (by omega)
              have bx4 := bx1.keep hb4
              have bx5 := bx4.grownO hg5 (own_ne_blk ho5 bx4 (by decide))
              have R45 := ((R4.below BW.out).below hb4).grown ho5 hg5 (by decide) (by decide)
              have oy5 := own_grown (own_old oy' hb4) ho5 hg5 (by decide)
              have kp5 : Keep (fun b => b ≠ kr) WL w5 := (KP.out.on (hb4.mono (by omega))).on ((Below.refl _ W4).grown hg5 (by omega) (fun g hg => hge5 g (by simpa using hg)))
              have z5 := hg5.size
              have bx7 : Blk (w5.setCell ⟨kr, 3, none⟩ (.slice q5 (k + 1) c5)) kr #[(.slice (some ⟨vb, vo, none⟩) n.v.length vc), (.slice (some ⟨ab, ao, none⟩) n.a.length ac), (.slice (some ⟨tb, tO, none⟩) n.t.length tc), .slice q5 (k + 1) c5, u4] 34 := by have := bx5.set 3 (.slice q5 (k + 1) c5); simpa using this
              have R37 := hR5.set bx5 (by decide) (by decide) 3 (.slice q5 (k + 1) c5)
              have R47 := R45.set bx5 (by decide) (by decide) 3 (.slice q5 (k + 1) c5)
              have oy7 := owns_set oy5 bx5 (by decide) 3 (.slice q5 (k + 1) c5)
              have kp7 := kp5.setCell (b := kr) (fun h => h rfl) 3 (.slice q5 (k + 1) c5)
              obtain ⟨W8, hW8⟩ := named ((w5.setCell ⟨kr, 3, none⟩ (.slice q5 (k + 1) c5)).alloc (.cells #[.slice qy' (trnL n k).length cy'] 36))
              have hb8 : Below (w5.setCell ⟨kr, 3, none⟩ (.slice q5 (k + 1) c5)).heap.size (w5.setCell ⟨kr, 3, none⟩ (.slice q5 (k + 1) c5)) W8 := by rw [hW8]; exact below_alloc1 _
              have z8 := hb8.size
              have z7 : (w5.setCell ⟨kr, 3, none⟩ (.slice q5 (k + 1) c5)).heap.size = w5.heap.size := by simp
              have hk8 : Blk W8 w5.heap.size #[.slice qy' (trnL n k).length cy'] 36 := by rw [hW8]; exact Blk.new _ _ _ _ z7
              obtain ⟨q9, c9, w9, hr9, hR9, hg9, hge9, n9, xs9, ho9⟩ := (R47.below hb8).app Tryz.underlying32 infoRowJ (owns_base (own_old oy7 hb8) zz) hk8 (by decide) (by omega) (by omega)
              have bx8 := bx7.keep hb8
              have bx9 := bx8.grownO hg9 (own_ne_blk ho9 bx8 (by decide))
              have R39 := (R37.below hb8).grown ho9 hg9 (by decide) (by decide)
              have kp9 : Keep (fun b => b ≠ kr) WL w9 := (kp7.on (hb8.mono (by omega))).on ((Below.refl _ W8).grown hg9 (by omega) (fun g hg => hge9 g (by simpa using hg)))
              have OSN : Hid (OfS n WL kr (.slice (some ⟨vb, vo, none⟩) n.v.length vc) (.slice (some ⟨ab, ao, none⟩) n.a.length ac) (.slice (some ⟨tb, tO, none⟩) n.t.length tc) (k + 1) (w9.setCell ⟨kr, 4, none⟩ (.slice q9 (k + 1) c9))) := by
                refine Lib.hid ⟨kp9.setCell (b := kr) (fun h => h rfl) 4 _, .slice q5 (k + 1) c5, .slice q9 (k + 1) c9, ?_, R39.set bx9 (by decide) (by decide) 4 _, hR9.set bx9 (by decide) (by decide) 4 _⟩
                have := bx9.set 4 (.slice q9 (k + 1) c9)
                simpa using this
              rw [hW4] at hr5
              rw [hW8] at hr9
              have HR5 := Lib.hid hr5
              have HR9 := Lib.hid hr9
              obtain ⟨-, -, -, d3, d4, -⟩ := bx1.o5
              have l1 := bx1.lt
              have e3 := bx5.cell 3 rfl
              have f3 := bx5.free 3
              have l5 := bx5.lt
              have g4 := bx7.cell 4 rfl
              have e4 := bx9.cell 4 rfl
              have f4 := bx9.free 4
              have l9 := bx9.lt
              have l7 := bx7.lt
              clear hr5 hr9 hW4 hW8 hb4 hk4 hb8 hk8 ho5 hg5 hge5 ho9 hg9 hge9 bx bx1 bx4 bx5 bx7 bx8 bx9 R3 R4 R45 R37 R47 R39 hR5 hR9 oy5 oy7 kp5 kp7 kp9 ox oy oy' OX OY z4 z5 z7 z8 zz zw OS hjn RO HEX HPI HTURN HTT HTN HTQ XY2 XT0 XT1 XT2
              obtain ⟨c0, c1, c2, -, -, -⟩ := KNs.out.o3
              go_wp2_with (at_builtin; first | refine wpList_append_run (by rfl) _ _ _ rfl _ _ _ rfl rfl HR5.out ?_ | refine wpList_append_run (by rfl) _ _ _ rfl _ _ _ rfl rfl HR9.out ?_)
              go_roundw
              case rel => exact ⟨k + 1, by omega, by go_num, OSN⟩
              case measure => simp [intOf]; omega
        · obtain rfl : k = n.a.length := by omega
          have hli : ¬ (n.a.length : Int) < (n.a.length : Int) := by omega
          obtain ⟨u3, u4, bx, R3, R4⟩ := OS.out.box
          obtain ⟨q3, e3, rfl⟩ := R3.shape
          obtain ⟨q4, e4, rfl⟩ := R4.shape
          have KNs := OS.out.kp.blk KNL.out (by have := ZKR.out; omega)
          have KQs := OS.out.kp.blk KQL.out (by have := ZKR.out; omega)
          have zz := OS.out.kp.size
          have HBW := HBV.out _ OS.out.kp
          have zkr := ZKR.out
          have zl := ZL.out
          obtain ⟨WF, hWF⟩ := named (((((wr.setCell ⟨kq, 0, none⟩ (.slice vq n.v.length vc)).setCell ⟨kq, 1, none⟩ (.slice aq n.a.length ac)).setCell ⟨kq, 2, none⟩ (.slice tq n.t.length tc)).setCell ⟨kq, 3, none⟩ (.slice q3 n.a.length e3)).setCell ⟨kq, 4, none⟩ (.slice q4 n.a.length e4))
          have HBF : Hid (Below w.heap.size w WF) := by
            rw [hWF]
            exact Lib.hid (((((HBW.setCell (by simp only []; omega) _).setCell (by simp only []; omega) _).setCell (by simp only []; omega) _).setCell (by simp only []; omega) _).setCell (by simp only []; omega) _)
          have HRV : Hid (RoadsV WF w.heap.size (.agg #[.slice vq n.v.length vc, .slice aq n.a.length ac, .slice tq n.t.length tc, (.slice q3 n.a.length e3), (.slice q4 n.a.length e4)]) n) := by
            refine Lib.hid ⟨vq, aq, tq, vc, ac, tc, (.slice q3 n.a.length e3), (.slice q4 n.a.length e4), rfl, HSI0.out.below HBF.out, ?_, ?_⟩
            · rw [hWF]; exact (R3.set5 KQs (by decide) (by decide) _ _ _ _ _).base (by omega)
            · rw [hWF]; exact (R4.set5 KQs (by decide) (by decide) _ _ _ _ _).base (by omega)
          obtain ⟨d0, d1, d2, d3, d4, -⟩ := bx.o5
          obtain ⟨m0, m1, m2, m3, m4, f0, f1, f2, f3, f4⟩ := KQs.o5
          have lq := KQs.lt
          have lr := bx.lt
          obtain ⟨c0, c1, c2, -, -, -⟩ := KNs.o3
          clear R3 R4 bx KNs KQs zz HBW zkr zl
          rw [hWF] at HBF HRV
          clear hWF
          go_wp2_with fail
          exact bodyPost_ret (v := .agg #[.slice vq n.v.length vc, .slice aq n.a.length ac, .slice tq n.t.length tc, .slice q3 n.a.length e3, .slice q4 n.a.length e4]) (by simp [results, Tryz.results8, go_sem]; go_simp) rfl ⟨_, rfl, HRV.out, HBF.out⟩

end Go.Proofs.YtgihaakgadmidaaGreat
