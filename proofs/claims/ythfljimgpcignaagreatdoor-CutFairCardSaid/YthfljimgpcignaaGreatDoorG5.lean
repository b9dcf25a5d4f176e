/-
  Regions that draw their order, whose operations only make memory: what holds of each operation's value in every world that has grown holds behind the region, whatever the order.
-/
import Derived.RegionTactic
import Derived.Below
import Derived.Test.YthfljimgpcignaaGreatDoorGrow
namespace Go.Proofs.YthfljimgpcignaaGreatDoor.GG
open Go.RowKit
variable {σ : Type} {Rl : σ → World → σ → World → Prop}

/-- .. and operation i. -/
def doneG (l : Nat → Bool) (i : Nat) : Nat → Bool := fun k => if k = i then true else l k
/-- What is known of an operation's value: it itself, or something that stays true while memory grows. -/
inductive Fact {σ : Type} (Rl : σ → World → σ → World → Prop) where
  | lit (u : Value)
  | prop (p : Value → σ → World → Prop) (h : ∀ v s w s' w', p v s w → Rl s w s' w' → p v s' w')
  /-- .. of a pointer to a block that the operation itself has made. -/
  | fresh (p : Value → σ → World → Prop) (h : ∀ v s w s' w', p v s w → Rl s w s' w' → p v s' w')
def Fact.holds : Fact Rl → Value → σ → World → Prop
  | .lit u, v, _, _ => v = u
  | .prop p _, v, s, w => p v s w
  | .fresh p _, v, s, w => p v s w
def Fact.isFresh : Fact Rl → Bool
  | .fresh _ _ => true
  | _ => false
/-- The block that a pointer, a slice, points to. -/
def headOf : Value → Option Nat
  | .pointer (some p) => some p.block
  | .slice (some p) _ _ => some p.block
  | _ => none
/-- v points to a block that is in w', and was not in w. -/
def NewPtr (w w' : World) (v : Value) : Prop := ∃ b, headOf v = some b ∧ w.heap.size ≤ b ∧ b < w'.heap.size
theorem Fact.grow {f : Fact Rl} {v : Value} {s s' : σ} {w w' : World} (h : f.holds v s w) (hb : Rl s w s' w') : f.holds v s' w' := by
  cases f with
  | lit u => exact h
  | prop p hp => exact hp v s w s' w' h hb
  | fresh p hp => exact hp v s w s' w' h hb
/-- The value that a frame of the walk in the text's order has in an operation's slot. -/
def Fact.pickOr : Fact Rl → Value → Value
  | .lit u, _ => u
  | .prop _ _, v => v
  | .fresh _ _, v => v

section
variable (ops : Array Oper) (Ds : List (Fact Rl))
def dstAt (n : Nat) (k : Nat) : Option Tmp := if k < n then (ops[k]?).bind (·.dst) else none
def factAt (k : Nat) : Fact Rl := Ds.getD k (.lit undef)
/-- What is known of operation k's value, in a frame. -/
def holdsAt (n : Nat) (k : Nat) (a : Act) (s : σ) (w : World) : Prop :=
  match dstAt ops n k with
  | some d => (factAt Ds k).holds (a.tmps.getD d undef) s w
  | none => ∃ v, (factAt Ds k).holds v s w
end

/-- The region's edges bear what the theorem asks: of its first n operations, behind which the others come. -/
def growOK (ops : Array Oper) (m n : Nat) (A : List (List Nat)) : Bool :=
  Region.noSelect ops && decide (n ≤ ops.size) && ((List.range n).all fun i =>
    match ops[i]? with
    | none => false
    | some o =>
      (A.getD i []).all (fun k => decide (k < i) && o.after.toList.any fun e => Region.binds .any e && (e.on == k || (A.getD e.on []).contains k)) &&
      (o.after.toList.all fun e => !Region.binds .any e || decide (e.on < i)) &&
      ((o.looksAt ops).all fun t => (List.range n).all fun k => dstAt ops n k != some t || (A.getD i []).contains k) &&
      (match o.dst with
        | none => true
        | some d => decide (d < m) && (List.range n).all fun k => k == i || dstAt ops n k != some d)) &&
  (List.range ops.size).all fun i => decide (i < n) || match ops[i]? with
    | none => false
    | some o => (List.range n).all fun k => o.after.toList.any fun e => Region.binds .any e && (e.on == k || (A.getD e.on []).contains k || decide (n ≤ e.on))

structure GrowAt (ops : Array Oper) (m n : Nat) (A : List (List Nat)) (i : Nat) (o : Oper) : Prop where
  anc : ∀ k ∈ A.getD i [], k < i ∧ ∃ e ∈ o.after, Region.binds .any e = true ∧ (e.on = k ∨ k ∈ A.getD e.on [])
  edge : ∀ e ∈ o.after, Region.binds .any e = true → e.on < i
  looks : ∀ t ∈ o.looksAt ops, ∀ k, dstAt ops n k = some t → k ∈ A.getD i []
  small : ∀ d, o.dst = some d → d < m
  apart : ∀ d, o.dst = some d → ∀ k, dstAt ops n k = some d → k = i

theorem dstAt_lt {ops : Array Oper} {n k : Nat} {t : Tmp} (h : dstAt ops n k = some t) : k < n := by
  unfold dstAt at h
  by_cases hk : k < n
  · exact hk
  · rw [if_neg hk] at h; cases h
theorem growOK_at {ops : Array Oper} {m n : Nat} {A : List (List Nat)} (h : growOK ops m n A = true) {i : Nat} {o : Oper} (ho : ops[i]? = some o) (hin : i < n) : GrowAt ops m n A i o := by
  unfold growOK at h
  simp only [Bool.and_eq_true] at h
  have h1 := List.all_eq_true.1 h.1.2 i (List.mem_range.2 hin)
  rw [ho] at h1
  simp only [Bool.and_eq_true] at h1
  obtain ⟨⟨⟨h2, h3⟩, h4⟩, h5⟩ := h1
  refine ⟨fun k hk => ?_, fun e he hb => ?_, fun t ht k hk => ?_, fun d hd => ?_, fun d hd k hk => ?_⟩
  · have := List.all_eq_true.1 h2 k hk
    simp only [Bool.and_eq_true, decide_eq_true_eq] at this
    refine ⟨this.1, ?_⟩
    obtain ⟨e, he, hb⟩ := List.any_eq_true.1 this.2
    simp only [Bool.and_eq_true, Bool.or_eq_true, beq_iff_eq] at hb
    exact ⟨e, by simpa using he, hb.1, hb.2.imp id (fun h => by simpa using h)⟩
  · have := List.all_eq_true.1 h3 e (by simpa using he)
    simpa [hb] using this
  · have := List.all_eq_true.1 (List.all_eq_true.1 h4 t ht) k (List.mem_range.2 (dstAt_lt hk))
    simpa [hk] using this
  · rw [hd] at h5
    simp only [Bool.and_eq_true, decide_eq_true_eq] at h5
    exact h5.1
  · rw [hd] at h5
    simp only [Bool.and_eq_true] at h5
    have := List.all_eq_true.1 h5.2 k (List.mem_range.2 (dstAt_lt hk))
    simpa [hk] using this
theorem growOK_sel {ops : Array Oper} {m n : Nat} {A : List (List Nat)} (h : growOK ops m n A = true) : Region.noSelect ops = true := by
  unfold growOK at h
  simp only [Bool.and_eq_true] at h
  exact h.1.1.1
theorem growOK_le {ops : Array Oper} {m n : Nat} {A : List (List Nat)} (h : growOK ops m n A = true) : n ≤ ops.size := by
  unfold growOK at h
  simp only [Bool.and_eq_true, decide_eq_true_eq] at h
  exact h.1.1.2
theorem growOK_behind {ops : Array Oper} {m n : Nat} {A : List (List Nat)} (h : growOK ops m n A = true) {i : Nat} {o : Oper} (ho : ops[i]? = some o) (hin : ¬ i < n) (k : Nat) (hk : k < n) : ∃ e ∈ o.after, Region.binds .any e = true ∧ (e.on = k ∨ k ∈ A.getD e.on [] ∨ n ≤ e.on) := by
  unfold growOK at h
  simp only [Bool.and_eq_true] at h
  have h1 := List.all_eq_true.1 h.2 i (List.mem_range.2 (Array.getElem?_eq_some_iff.1 ho).1)
  rw [ho] at h1
  simp only [hin, decide_false, Bool.false_or] at h1
  obtain ⟨e, he, hb⟩ := List.any_eq_true.1 (List.all_eq_true.1 h1 k (List.mem_range.2 hk))
  simp only [Bool.and_eq_true, Bool.or_eq_true, beq_iff_eq, decide_eq_true_eq] at hb
  refine ⟨e, by simpa using he, hb.1, ?_⟩
  rcases hb.2 with (h | h) | h
  · exact Or.inl h
  · exact Or.inr (Or.inl (by simpa using h))
  · exact Or.inr (Or.inr h)

section
variable (P : Program) (ops : Array Oper) (n : Nat) (A : List (List Nat)) (S : (Nat → Bool) → σ → World → Prop) (Ds : List (Fact Rl))

/-- What is to be shown of operation i, in the frame of the walk in the text's order. -/
def GrowOb (i : Nat) (o : Oper) (c : Act) : Prop :=
  ∀ (dn : Nat → Bool) (s : σ) (w : World), S dn s w → dn i = false → (∀ k ∈ A.getD i [], holdsAt ops Ds n k c s w) → ∀ K : Act → World → Prop, (∀ v s' w', (factAt Ds i).holds v s' w' → ((factAt Ds i).isFresh = true → NewPtr w w' v) → S (doneG dn i) s' w' → Rl s w s' w' ∧ w.heap.size ≤ w'.heap.size → K (c.put o.dst v) w') →
    if Region.wanted o (yielded ops c.tmps) = true then Oper.wp P o c w K (fun _ _ _ => False) else K (c.put o.dst undef) w

/-- The walk in the text's order. -/
def GrowSeq (fin : Act → Prop) : Nat → List Oper → Act → Prop
  | _, [], c => fin c
  | i, o :: r, c => GrowOb P ops n A S Ds i o c ∧ match factAt Ds i with
    | .lit u => GrowSeq fin (i + 1) r (c.put o.dst u)
    | .prop _ _ => ∀ v, GrowSeq fin (i + 1) r (c.put o.dst v)
    | .fresh _ _ => ∀ v, GrowSeq fin (i + 1) r (c.put o.dst v)

/-- The frame of the walk in the text's order, ahead of what is behind these. -/
def mixed (a : Act) : Nat → List Oper → Act → Act
  | _, [], c => c
  | i, o :: r, c => mixed a (i + 1) r (c.put o.dst ((factAt Ds i).pickOr (match o.dst with | some d => a.tmps.getD d undef | none => undef)))
end

section
variable {P : Program} {ops : Array Oper} {n : Nat} {A : List (List Nat)} {S : (Nat → Bool) → σ → World → Prop} {Ds : List (Fact Rl)}

theorem growSeq_at {fin : Act → Prop} (a : Act) : ∀ (l : List Oper) (i : Nat) (c : Act), GrowSeq P ops n A S Ds fin i l c →
    (∀ (m : Nat) (o : Oper), l[m]? = some o → GrowOb P ops n A S Ds (i + m) o (mixed Ds a i (l.take m) c)) ∧ fin (mixed Ds a i l c)
  | [], i, c, h => ⟨fun m o ho => by simp at ho, h⟩
  | o :: r, i, c, h => by
    obtain ⟨h1, h2⟩ := h
    have h3 : GrowSeq P ops n A S Ds fin (i + 1) r (c.put o.dst ((factAt Ds i).pickOr (match o.dst with | some d => a.tmps.getD d undef | none => undef))) := by
      cases hf : factAt Ds i with
      | lit u => rw [hf] at h2; exact h2
      | prop p hp => rw [hf] at h2; exact h2 _
      | fresh p hp => rw [hf] at h2; exact h2 _
    obtain ⟨h4, h5⟩ := growSeq_at a r (i + 1) _ h3
    refine ⟨fun m o' ho => ?_, h5⟩
    cases m with
    | zero =>
      have : o = o' := by simpa using ho
      subst this
      exact h1
    | succ m =>
      have := h4 m o' (by simpa using ho)
      rw [Nat.add_assoc, Nat.add_comm 1 m] at this
      exact this

theorem mixed_size (a : Act) : ∀ (l : List Oper) (i : Nat) (c : Act), (mixed Ds a i l c).tmps.size = c.tmps.size
  | [], _, _ => rfl
  | o :: r, i, c => by
    rw [mixed, mixed_size a r]
    cases o.dst <;> simp [Act.put]
theorem mixed_defers (a : Act) : ∀ (l : List Oper) (i : Nat) (c : Act), (mixed Ds a i l c).defers = c.defers
  | [], _, _ => rfl
  | o :: r, i, c => by
    rw [mixed, mixed_defers a r]
    cases o.dst <;> simp [Act.put]
theorem put_getD_ne (c : Act) (x : Option Tmp) (v : Value) (t : Tmp) (h : x ≠ some t) : (c.put x v).tmps.getD t undef = c.tmps.getD t undef := by
  cases x with
  | none => rfl
  | some d =>
    have hne : d ≠ t := fun e => h (by rw [e])
    simp [Act.put, Array.getElem?_setIfInBounds_ne hne]
theorem put_getD_same (c : Act) (d : Tmp) (v : Value) (h : d < c.tmps.size) : (c.put (some d) v).tmps.getD d undef = v := by
  simp [Act.put, h]
theorem mixed_other (a : Act) (t : Tmp) : ∀ (l : List Oper) (i : Nat) (c : Act), (∀ o ∈ l, o.dst ≠ some t) → (mixed Ds a i l c).tmps.getD t undef = c.tmps.getD t undef
  | [], _, _, _ => rfl
  | o :: r, i, c, h => by
    rw [mixed, mixed_other a t r (i + 1) _ (fun o' ho => h o' (List.mem_cons_of_mem _ ho)), put_getD_ne _ _ _ _ (h o (List.mem_cons_self ..))]
theorem mixed_same (a : Act) (t : Tmp) : ∀ (l : List Oper) (i : Nat) (c : Act) (k : Nat) (o : Oper), l[k]? = some o → o.dst = some t → (∀ (j : Nat) (o' : Oper), l[j]? = some o' → o'.dst = some t → j = k) → t < c.tmps.size →
    (mixed Ds a i l c).tmps.getD t undef = (factAt Ds (i + k)).pickOr (a.tmps.getD t undef)
  | [], _, _, k, o, hk, _, _, _ => by simp at hk
  | o :: r, i, c, 0, o', hk, hd, hu, ht => by
    have e : o = o' := by simpa using hk
    subst e
    rw [mixed, mixed_other a t r (i + 1) _ (fun o' ho hd' => by
      obtain ⟨j, hj⟩ := List.getElem?_of_mem ho
      have := hu (j + 1) o' (by simpa using hj) hd'
      omega), hd, put_getD_same _ _ _ ht]
    rfl
  | o :: r, i, c, k + 1, o', hk, hd, hu, ht => by
    have hk' : r[k]? = some o' := by simpa using hk
    have hs : (c.put o.dst ((factAt Ds i).pickOr (match o.dst with | some d => a.tmps.getD d undef | none => undef))).tmps.size = c.tmps.size := by cases o.dst <;> simp [Act.put]
    rw [mixed, mixed_same a t r (i + 1) _ k o' hk' hd (fun j o'' hj hd' => by
      have := hu (j + 1) o'' (by simpa using hj) hd'
      omega) (by rw [hs]; exact ht)]
    congr 2
    omega

/-- Ahead of an operation: what is known of the frame and the world. -/
structure GrowInv (ops : Array Oper) (n : Nat) (A : List (List Nat)) (S : (Nat → Bool) → σ → World → Prop) (Ds : List (Fact Rl)) (a0 : Act) (listed : Array Bool) (a : Act) (sg : σ) (w : World) : Prop where
  s : S (fun k => listed.getD k false) sg w
  defers : a.defers = a0.defers
  size : a.tmps.size = a0.tmps.size
  rest : ∀ t, (∀ k, dstAt ops n k ≠ some t) → a.tmps.getD t undef = a0.tmps.getD t undef
  full : listed.size = ops.size
  early : ∀ k, listed.getD k false = true → k < n
  known : ∀ k, listed.getD k false = true → holdsAt ops Ds n k a sg w
  closed : ∀ k, listed.getD k false = true → ∀ j ∈ A.getD k [], listed.getD j false = true
  made : ∀ k, listed.getD k false = true → (factAt Ds k).isFresh = true → ∀ t, dstAt ops n k = some t → ∃ b, headOf (a.tmps.getD t undef) = some b ∧ b < w.heap.size
  distinct : ∀ j k, j ≠ k → listed.getD j false = true → listed.getD k false = true → (factAt Ds j).isFresh = true → (factAt Ds k).isFresh = true → ∀ t u, dstAt ops n j = some t → dstAt ops n k = some u → headOf (a.tmps.getD t undef) ≠ headOf (a.tmps.getD u undef)

/-- What the operations made is apart. -/
def Apart (ops : Array Oper) (n : Nat) (Ds : List (Fact Rl)) (a : Act) : Prop :=
  ∀ j k, j < n → k < n → j ≠ k → (factAt Ds j).isFresh = true → (factAt Ds k).isFresh = true → ∀ t u, dstAt ops n j = some t → dstAt ops n k = some u → headOf (a.tmps.getD t undef) ≠ headOf (a.tmps.getD u undef)

theorem dstAt_of {k : Nat} {o : Oper} (h : ops[k]? = some o) (hk : k < n) : dstAt ops n k = o.dst := by unfold dstAt; rw [if_pos hk, h]; rfl
theorem dstAt_some {k : Nat} {t : Tmp} (h : dstAt ops n k = some t) : ∃ o, ops[k]? = some o ∧ o.dst = some t ∧ k < n := by
  have hk := dstAt_lt h
  unfold dstAt at h
  rw [if_pos hk] at h
  cases he : ops[k]? with
  | none => rw [he] at h; cases h
  | some o => rw [he] at h; exact ⟨o, rfl, h, hk⟩
theorem take_at {i j : Nat} {o : Oper} (h : (ops.toList.take i)[j]? = some o) : ops[j]? = some o ∧ j < i := by
  rw [List.getElem?_take] at h
  split at h
  · exact ⟨by simpa using h, by assumption⟩
  · cases h

/-- What the walk's frame has in an operation's slot. -/
theorem mixed_at {m : Nat} {a0 : Act} (a : Act) (hA : growOK ops m n A = true) (hm : a0.tmps.size = m) {i k : Nat} {t : Tmp} (hk : dstAt ops n k = some t) (hki : k < i) (hin : i ≤ n) : (mixed Ds a 0 (ops.toList.take i) a0).tmps.getD t undef = (factAt Ds k).pickOr (a.tmps.getD t undef) := by
  obtain ⟨ok, hok, hd, hkn⟩ := dstAt_some hk
  have Gk := growOK_at hA hok hkn
  rw [mixed_same a t (ops.toList.take i) 0 a0 k ok (by rw [List.getElem?_take, if_pos hki]; simpa using hok) hd (fun j o' hj hd' => by
    obtain ⟨hj', hji⟩ := take_at hj
    exact Gk.apart t hd j (by rw [dstAt_of hj' (by omega), hd'])) (by rw [hm]; exact Gk.small t hd), Nat.zero_add]

/-- The frames agree wherever an operation looks. -/
theorem grow_agree {a0 a : Act} {s : σ} {w : World} {listed : Array Bool} (hA : growOK ops a0.tmps.size n A = true) (I : GrowInv ops n A S Ds a0 listed a s w) {i : Nat} {o : Oper} (ho : ops[i]? = some o) (hin : i < n)
    (hl : ∀ k ∈ A.getD i [], listed.getD k false = true) {t : Tmp} (ht : t ∈ o.looksAt ops) : (mixed Ds a 0 (ops.toList.take i) a0).tmps.getD t undef = a.tmps.getD t undef := by
  have G := growOK_at hA ho hin
  by_cases hk : ∃ k, dstAt ops n k = some t
  · obtain ⟨k, hk⟩ := hk
    have hkA := G.looks t ht k hk
    rw [mixed_at a hA rfl hk (G.anc k hkA).1 (Nat.le_of_lt hin)]
    have hh := I.known k (hl k hkA)
    unfold holdsAt at hh
    rw [hk] at hh
    cases hf : factAt Ds k with
    | lit u => rw [hf] at hh; exact hh.symm
    | prop p hp => rfl
    | fresh p hp => rfl
  · have hn : ∀ k, dstAt ops n k ≠ some t := fun k h => hk ⟨k, h⟩
    rw [mixed_other a t _ _ _ (fun o' ho' hd' => by
      obtain ⟨j, hj⟩ := List.getElem?_of_mem ho'
      obtain ⟨hj', hji⟩ := take_at hj
      exact hn j (by rw [dstAt_of hj' (by omega), hd'])), I.rest t hn]

theorem grow_wanted {c a : Act} {o : Oper} (hs : c.tmps.size = a.tmps.size) (h : ∀ t ∈ o.looksAt ops, c.tmps.getD t undef = a.tmps.getD t undef) : Region.wanted o (yielded ops c.tmps) = Region.wanted o (yielded ops a.tmps) := by
  unfold Region.wanted
  cases hg : o.guard with
  | none => rfl
  | some gw =>
    obtain ⟨g, want⟩ := gw
    have hy : yielded ops c.tmps g = yielded ops a.tmps g := by
      unfold yielded
      cases ht : (ops[g]?).bind (·.dst) with
      | none => rfl
      | some t =>
        have h1 := h t (by simp [Oper.looksAt, hg, ht])
        have h2 : c.tmps[t]? = a.tmps[t]? := by
          rcases Nat.lt_or_ge t c.tmps.size with hl | hl
          · have hl' : t < a.tmps.size := hs ▸ hl
            simp only [Array.getD_eq_getD_getElem?, Array.getElem?_eq_getElem hl, Array.getElem?_eq_getElem hl', Option.getD_some] at h1
            rw [Array.getElem?_eq_getElem hl, Array.getElem?_eq_getElem hl', h1]
          · rw [Array.getElem?_eq_none hl, Array.getElem?_eq_none (hs ▸ hl)]
        simp [h2]
    simp only [hy]

theorem grow_exec {c a : Act} {o : Oper} (hsel : ∀ cs b, o.op ≠ .select cs b) (h : ∀ t ∈ o.looksAt ops, c.tmps.getD t undef = a.tmps.getD t undef) : execOp c.eval o = execOp a.eval o :=
  execOp_congr o hsel fun x hx => by
    cases x with
    | tmp t =>
      have := h t (List.mem_append_left _ (List.mem_filterMap.2 ⟨.tmp t, by simpa using hx, rfl⟩))
      simpa [Act.eval] using this
    | _ => rfl

theorem put_inj {c : Act} {x : Option Tmp} {v v' : Value} (hx : ∀ d, x = some d → d < c.tmps.size) (h : c.put x v = c.put x v') (a : Act) : a.put x v = a.put x v' := by
  cases x with
  | none => rfl
  | some d =>
    have hd := hx d rfl
    have h1 := put_getD_same c d v hd
    rw [h, put_getD_same c d v' hd] at h1
    rw [h1]

/-- One operation, in whatever frame agrees with the walk's. -/
theorem grow_step {i : Nat} {o : Oper} {c a : Act} {w : World} {K : Act → World → Prop} {Q : Exit → Act → World → Prop} (ho : ops[i]? = some o) (hsel : ∀ cs b, o.op ≠ .select cs b)
    (hs : c.tmps.size = a.tmps.size) (hag : ∀ t ∈ o.looksAt ops, c.tmps.getD t undef = a.tmps.getD t undef) (hx : ∀ d, o.dst = some d → d < c.tmps.size)
    (hob : GrowOb P ops n A S Ds i o c) (dn : Nat → Bool) (s : σ) (hS : S dn s w) (hcc : dn i = false) (hk : ∀ k ∈ A.getD i [], holdsAt ops Ds n k c s w)
    (hK : ∀ v s' w', (factAt Ds i).holds v s' w' → ((factAt Ds i).isFresh = true → NewPtr w w' v) → S (doneG dn i) s' w' → Rl s w s' w' ∧ w.heap.size ≤ w'.heap.size → K (a.put o.dst v) w') : wpOp P ops Q i K a w := by
  have h := hob dn s w hS hcc hk (fun a' w' => ∃ v s', a' = c.put o.dst v ∧ (factAt Ds i).holds v s' w' ∧ ((factAt Ds i).isFresh = true → NewPtr w w' v) ∧ S (doneG dn i) s' w' ∧ Rl s w s' w' ∧ w.heap.size ≤ w'.heap.size) (fun v s' w' h1 h0 h2 h3 => ⟨v, s', rfl, h1, h0, h2, h3⟩)
  rw [grow_wanted hs hag] at h
  have key : ∀ v w', (∃ v' s', c.put o.dst v = c.put o.dst v' ∧ (factAt Ds i).holds v' s' w' ∧ ((factAt Ds i).isFresh = true → NewPtr w w' v') ∧ S (doneG dn i) s' w' ∧ Rl s w s' w' ∧ w.heap.size ≤ w'.heap.size) → K (a.put o.dst v) w' := by
    rintro v w' ⟨v', s', e, h1, h0, h2, h3⟩
    rw [put_inj hx e a]
    exact hK v' s' w' h1 h0 h2 h3
  unfold wpOp
  rw [ho]
  show if Region.wanted o (yielded ops a.tmps) = true then _ else _
  split
  · rename_i hw
    rw [if_pos hw] at h
    left
    unfold Oper.wp at h ⊢
    rw [grow_exec hsel hag] at h
    generalize (execOp a.eval o).run P w = r at h ⊢
    cases r with
    | ok n w' =>
      cases n <;> simp only [Oper.upon] at h ⊢
      case value v => exact key v w' h
      case skip => exact key undef w' h
      case defer d =>
        obtain ⟨v, _, e, _⟩ := h
        exfalso
        have e1 := congrArg (fun x => x.defers.length) e
        cases hd : o.dst <;> simp [Act.put, hd] at e1
      case enter f args =>
        refine Calls.mono h fun e w'' he => ?_
        cases e with
        | returned v => exact key v w'' he
        | panicked ch => exact he.elim
        | outgrown => obtain ⟨_, _, h⟩ := he; exact h.elim
      case row row args => exact Rows.mono h fun v w'' he => key v w'' he
    | halt x w' =>
      cases x <;> simp only [Oper.upon] at h ⊢
  · rename_i hw
    rw [if_neg hw] at h
    exact key undef w h

theorem count_set_lt {listed : Array Bool} {i : Nat} (hi : i < listed.size) (h : listed.getD i true = false) : (listed.setIfInBounds i true).toList.count false + 1 = listed.toList.count false := by
  obtain ⟨l⟩ := listed
  simp only [List.size_toArray] at hi
  simp only [List.setIfInBounds_toArray]
  have h' : l[i] = false := by simpa [hi] using h
  clear h
  induction l generalizing i with
  | nil => simp at hi
  | cons b r ih =>
    cases i with
    | zero =>
      have : b = false := by simpa using h'
      subst this
      simp
    | succ i =>
      have := ih (i := i) (by simpa using hi) (by simpa using h')
      simp only [List.set_cons_succ, List.count_cons]
      omega

/-- The first n are listed. -/
def listedTo (n m : Nat) : Array Bool := (List.replicate n true ++ List.replicate (m - n) false).toArray

theorem grow_any {a0 : Act} {Q : Exit → Act → World → Prop} (hA : growOK ops a0.tmps.size n A = true)
    (hseq : GrowSeq P ops n A S Ds (fun c => ∀ dn s w, S dn s w → (∀ k, k < n → dn k = true) → (∀ k, k < n → holdsAt ops Ds n k c s w) → Apart ops n Ds c → wpAny P .any ops Q (ops.size - n) (listedTo n ops.size) c w) 0 (ops.toList.take n) a0) :
    ∀ (fuel : Nat) (listed : Array Bool) (a : Act) (s : σ) (w : World), GrowInv ops n A S Ds a0 listed a s w → listed.toList.count false = fuel → wpAny P .any ops Q fuel listed a w := by
  have hsel := growOK_sel hA
  have hle := growOK_le hA
  -- all are listed: the walk's own end
  have hend : ∀ (fuel : Nat) (listed : Array Bool) (a : Act) (s : σ) (w : World), GrowInv ops n A S Ds a0 listed a s w → listed.toList.count false = fuel → (∀ k, k < n → listed.getD k false = true) → wpAny P .any ops Q fuel listed a w := by
    intro fuel listed a s w I hc hall
    have hfin := (growSeq_at a (ops.toList.take n) 0 a0 hseq).2
    have e : mixed Ds a 0 (ops.toList.take n) a0 = a := by
      have e1 := mixed_defers (Ds := Ds) a (ops.toList.take n) 0 a0
      have e2 := mixed_size (Ds := Ds) a (ops.toList.take n) 0 a0
      have e3 : (mixed Ds a 0 (ops.toList.take n) a0).tmps = a.tmps := by
        apply Array.ext
        · rw [e2, I.size]
        · intro t h1 h2
          have hg : (mixed Ds a 0 (ops.toList.take n) a0).tmps.getD t undef = a.tmps.getD t undef := by
            by_cases hk : ∃ k, dstAt ops n k = some t
            · obtain ⟨k, hk⟩ := hk
              have hkn := dstAt_lt hk
              rw [mixed_at a hA rfl hk hkn (Nat.le_refl _)]
              have hh := I.known k (hall k hkn)
              unfold holdsAt at hh
              rw [hk] at hh
              cases hf : factAt Ds k with
              | lit u => rw [hf] at hh; exact hh.symm
              | prop p hp => rfl
              | fresh p hp => rfl
            · have hn : ∀ k, dstAt ops n k ≠ some t := fun k h => hk ⟨k, h⟩
              rw [mixed_other a t _ _ _ (fun o' ho' hd' => by
                obtain ⟨j, hj⟩ := List.getElem?_of_mem ho'
                obtain ⟨hj', hji⟩ := take_at hj
                exact hn j (by rw [dstAt_of hj' hji, hd'])), I.rest t hn]
          simpa [h1, h2] using hg
      generalize mixed Ds a 0 (ops.toList.take n) a0 = m at *
      obtain ⟨mt, md⟩ := m
      obtain ⟨at_, ad⟩ := a
      simp only at e1 e3
      rw [e3, e1, ← I.defers]
    rw [e] at hfin
    have hl : listed = listedTo n ops.size := by
      apply Array.ext
      · rw [I.full]; simp [listedTo]; omega
      · intro k h1 h2
        by_cases hkn : k < n
        · have := hall k hkn
          simp only [Array.getD_eq_getD_getElem?, Array.getElem?_eq_getElem h1, Option.getD_some] at this
          rw [this]
          simp [listedTo, hkn]
        · have : ¬ listed.getD k false = true := fun h => hkn (I.early k h)
          simp only [Array.getD_eq_getD_getElem?, Array.getElem?_eq_getElem h1, Option.getD_some] at this
          have h3 : listed[k] = false := by simpa using this
          rw [h3]
          simp [listedTo, List.getElem_append, hkn]
    have hf : fuel = ops.size - n := by
      rw [← hc, hl]
      simp [listedTo, List.count_append, List.count_replicate]
    rw [hf, hl]
    exact hfin _ s w I.s (fun k hk => hall k hk) (fun k hk => I.known k (hall k hk)) (fun j k hj hk hne => I.distinct j k hne (hall j hj) (hall k hk))
  intro fuel
  induction fuel with
  | zero =>
    intro listed a s w I hc
    refine hend 0 listed a s w I hc fun k hk => ?_
    have hk' : k < listed.toList.length := by simp only [Array.length_toList]; rw [I.full]; omega
    have : listed.toList[k] ≠ false := fun h => List.count_eq_zero.1 hc (h ▸ List.getElem_mem hk')
    have h2 : k < listed.size := by simpa using hk'
    simpa [h2] using this
  | succ fuel ih =>
    intro listed a s w I hc
    by_cases hall : ∀ k, k < n → listed.getD k false = true
    · exact hend (fuel + 1) listed a s w I hc hall
    -- one of the first n is not listed: the least of these may come up, and none behind them may
    have hlt : ∀ i ∈ Region.ready .any ops listed, i < n := by
      intro i hi
      obtain ⟨h1, o, ho, h2⟩ := mem_ready.1 hi
      rcases Nat.lt_or_ge i n with h | h
      · exact h
      · exfalso
        refine hall fun k hk => ?_
        obtain ⟨e, he, hb, rfl | hm | hge⟩ := growOK_behind hA ho (by omega) k hk
        · exact h2 e he hb
        · exact I.closed e.on (h2 e he hb) k hm
        · exact absurd (I.early e.on (h2 e he hb)) (by omega)
    refine ⟨fun hr => ?_, fun i hi => ?_⟩
    · exfalso
      have hex : ∃ k, k < n ∧ listed.getD k false ≠ true := by
        rcases Classical.em (∃ k, k < n ∧ listed.getD k false ≠ true) with h | h
        · exact h
        · exact absurd (fun k hk => Classical.byContradiction fun hn => h ⟨k, hk, hn⟩) hall
      have hmin : ∀ m k, k ≤ m → k < n → listed.getD k false ≠ true → False := by
        intro m
        induction m with
        | zero =>
          intro k hkm hkn hkl
          obtain rfl : k = 0 := by omega
          have hk' : 0 < ops.size := by omega
          have hk2 : 0 < listed.size := by rw [I.full]; exact hk'
          have hmem : 0 ∈ Region.ready .any ops listed := by
            rw [mem_ready]
            refine ⟨by simpa [hk2] using hkl, ops[0], Array.getElem?_eq_getElem hk', fun e he hb => ?_⟩
            have := (growOK_at hA (Array.getElem?_eq_getElem hk') hkn).edge e he hb
            omega
          rw [hr] at hmem
          cases hmem
        | succ m ihm =>
          intro k hkm hkn hkl
          have hk' : k < ops.size := by omega
          have hk2 : k < listed.size := by rw [I.full]; exact hk'
          have hmem : k ∈ Region.ready .any ops listed := by
            rw [mem_ready]
            refine ⟨by simpa [hk2] using hkl, ops[k], Array.getElem?_eq_getElem hk', fun e he hb => ?_⟩
            have h3 := (growOK_at hA (Array.getElem?_eq_getElem hk') hkn).edge e he hb
            exact Classical.byContradiction fun hn => ihm e.on (by omega) (by omega) hn
          rw [hr] at hmem
          cases hmem
      obtain ⟨k, hkn, hkl⟩ := hex
      exact hmin k k (Nat.le_refl _) hkn hkl
    obtain ⟨h1, o, ho, h2⟩ := mem_ready.1 hi
    have hin := hlt i hi
    have G := growOK_at hA ho hin
    have hio : i < ops.size := (Array.getElem?_eq_some_iff.1 ho).1
    have hil : i < listed.size := by rw [I.full]; exact hio
    have hanc : ∀ k ∈ A.getD i [], listed.getD k false = true := by
      intro k hk
      obtain ⟨_, e, he, hb, rfl | hm⟩ := G.anc k hk
      · exact h2 e he hb
      · exact I.closed e.on (h2 e he hb) k hm
    have hsz := mixed_size (Ds := Ds) a (ops.toList.take i) 0 a0
    have hob := (growSeq_at a (ops.toList.take n) 0 a0 hseq).1 i o (by rw [List.getElem?_take, if_pos hin]; simpa using ho)
    rw [Nat.zero_add, List.take_take, Nat.min_eq_left (Nat.le_of_lt hin)] at hob
    refine grow_step ho (fun cs b => Region.noSelect_spec hsel i o cs b ho) (by rw [hsz, I.size]) (fun t ht => grow_agree hA I ho hin hanc ht) (fun d hd => by rw [hsz]; exact G.small d hd) hob (fun k => listed.getD k false) s I.s (by simpa [hil] using h1) ?_ ?_
    · intro k hk
      have hh := I.known k (hanc k hk)
      have hki := (G.anc k hk).1
      unfold holdsAt at hh ⊢
      cases hd : dstAt ops n k with
      | none => rw [hd] at hh; exact hh
      | some t =>
        rw [hd] at hh
        show (factAt Ds k).holds ((mixed Ds a 0 (ops.toList.take i) a0).tmps.getD t undef) s w
        rw [mixed_at a hA rfl hd hki (Nat.le_of_lt hin)]
        cases hf : factAt Ds k with
        | lit u => rfl
        | prop p hp => rw [hf] at hh; exact hh
        | fresh p hp => rw [hf] at hh; exact hh
    · intro v s' w' hv hnew hS hb
      -- a slot of another operation is as it was
      have hslot : ∀ k t, k ≠ i → dstAt ops n k = some t → (a.put o.dst v).tmps.getD t undef = a.tmps.getD t undef := fun k t hki hd => put_getD_ne _ _ _ _ (fun e => hki (G.apart t e k hd))
      have hhere : ∀ t, dstAt ops n i = some t → (a.put o.dst v).tmps.getD t undef = v := fun t hd => by
        rw [dstAt_of ho hin] at hd
        rw [hd]
        exact put_getD_same _ _ _ (by rw [I.size]; exact G.small t hd)
      refine ih _ _ s' _ ⟨(by
        have e : (fun k => (listed.setIfInBounds i true).getD k false) = doneG (fun k => listed.getD k false) i := by
          funext k
          unfold doneG
          by_cases e : k = i
          · subst e; simp [hil]
          · rw [getD_set_ne false (Ne.symm e), if_neg e]
        show S (fun k => (listed.setIfInBounds i true).getD k false) s' w'
        rw [e]
        exact hS), ?_, ?_, ?_, ?_, ?_, ?_, ?_, ?_, ?_⟩ ?_
      · cases hd : o.dst <;> simp [Act.put, I.defers]
      · cases hd : o.dst <;> simp [Act.put, I.size]
      · intro t ht
        rw [put_getD_ne _ _ _ _ (by rw [← dstAt_of (n := n) ho hin]; exact ht i)]
        exact I.rest t ht
      · simp [I.full]
      · intro k hk
        by_cases hki : k = i
        · omega
        · rw [getD_set_ne false (Ne.symm hki)] at hk
          exact I.early k hk
      · intro k hk
        by_cases hki : k = i
        · subst hki
          unfold holdsAt
          rw [dstAt_of ho hin]
          cases hd : o.dst with
          | none => exact ⟨v, hv⟩
          | some d =>
            show (factAt Ds k).holds ((a.put (some d) v).tmps.getD d undef) s' w'
            rw [put_getD_same _ _ _ (by rw [I.size]; exact G.small d hd)]
            exact hv
        · rw [getD_set_ne false (Ne.symm hki)] at hk
          have hh := I.known k hk
          unfold holdsAt at hh ⊢
          cases hd : dstAt ops n k with
          | none => rw [hd] at hh; obtain ⟨u, hu⟩ := hh; exact ⟨u, Fact.grow hu hb.1⟩
          | some t =>
            rw [hd] at hh
            show (factAt Ds k).holds ((a.put o.dst v).tmps.getD t undef) s' w'
            rw [put_getD_ne _ _ _ _ (fun e => hki (G.apart t e k hd))]
            exact Fact.grow hh hb.1
      · intro k hk j hj
        by_cases hki : k = i
        · subst hki; exact getD_set_true (hanc j hj)
        · rw [getD_set_ne false (Ne.symm hki)] at hk
          exact getD_set_true (I.closed k hk j hj)
      · intro k hk hfr t hd
        by_cases hki : k = i
        · subst hki
          obtain ⟨b, hb1, _, hb3⟩ := hnew hfr
          exact ⟨b, by rw [hhere t hd, hb1], hb3⟩
        · rw [getD_set_ne false (Ne.symm hki)] at hk
          obtain ⟨b, hb1, hb2⟩ := I.made k hk hfr t hd
          exact ⟨b, by rw [hslot k t hki hd, hb1], Nat.lt_of_lt_of_le hb2 hb.2⟩
      · intro j k hne hj hk hfj hfk t u hdj hdk
        by_cases hji : j = i
        · have hki : k ≠ i := fun e => hne (hji.trans e.symm)
          subst hji
          rw [getD_set_ne false (Ne.symm hki)] at hk
          obtain ⟨b, hb1, hb2, _⟩ := hnew hfj
          obtain ⟨b', hb1', hb2'⟩ := I.made k hk hfk u hdk
          rw [hhere t hdj, hslot k u hki hdk, hb1, hb1']
          intro e
          injection e with e
          omega
        · rw [getD_set_ne false (Ne.symm hji)] at hj
          by_cases hki : k = i
          · subst hki
            obtain ⟨b, hb1, hb2, _⟩ := hnew hfk
            obtain ⟨b', hb1', hb2'⟩ := I.made j hj hfj t hdj
            rw [hhere u hdk, hslot j t hji hdj, hb1, hb1']
            intro e
            injection e with e
            omega
          · rw [getD_set_ne false (Ne.symm hki)] at hk
            rw [hslot j t hji hdj, hslot k u hki hdk]
            exact I.distinct j k hne hj hk hfj hfk t u hdj hdk
      · have := count_set_lt hil h1
        omega

/-- A region that draws its order, walked once in the text's order: its first n operations; what comes behind these is still to come. -/
theorem wp_region_apart (n : Nat) (S : (Nat → Bool) → σ → World → Prop) (A : List (List Nat)) (Ds : List (Fact Rl)) {id : Nat} {a : Act} {w : World} {Q : Exit → Act → World → Prop} {m : Nat} (hm : P.follows .mixedOrders = true) (hz : a.tmps.size = m) (hA : growOK ops m n A = true)
    (s0 : σ) (hS : S (fun _ => false) s0 w.drew)
    (hseq : GrowSeq P ops n A S Ds (fun c => ∀ dn s w, S dn s w → (∀ k, k < n → dn k = true) → (∀ k, k < n → holdsAt ops Ds n k c s w) → Apart ops n Ds c → wpAny P .any ops Q (ops.size - n) (listedTo n ops.size) c w) 0 (ops.toList.take n) a) : (Code.region id ops true).wp P Q a w := by
  have hno : ∀ k, ¬ (Array.replicate ops.size false).getD k false = true := fun k hk => by
    by_cases h : k < ops.size
    · simp [h] at hk
    · simp [h] at hk
  exact wp_region_any hm (grow_any (hz ▸ hA) hseq ops.size _ a s0 _ ⟨(by
    have e : (fun k => (Array.replicate ops.size false).getD k false) = fun _ => false := by
      funext k
      cases h : (Array.replicate ops.size false).getD k false with
      | false => rfl
      | true => exact absurd h (hno k)
    show S (fun k => (Array.replicate ops.size false).getD k false) s0 w.drew
    rw [e]
    exact hS), rfl, rfl, fun _ _ => rfl, by simp, fun k hk => absurd hk (hno k), fun k hk => absurd hk (hno k), fun k hk => absurd hk (hno k), fun k hk => absurd hk (hno k), fun j k _ hj => absurd hj (hno j)⟩ (by simp))
theorem GrowSeq.mono {fin fin' : Act → Prop} (h : ∀ c, fin c → fin' c) : ∀ (l : List Oper) (i : Nat) (c : Act), GrowSeq P ops n A S Ds fin i l c → GrowSeq P ops n A S Ds fin' i l c
  | [], _, c, hs => h c hs
  | o :: r, i, c, hs => by
    refine ⟨hs.1, ?_⟩
    have h2 := hs.2
    cases hf : factAt Ds i with
    | lit u => rw [hf] at h2; exact GrowSeq.mono h r _ _ h2
    | prop p hp => rw [hf] at h2; exact fun v => GrowSeq.mono h r _ _ (h2 v)
    | fresh p hp => rw [hf] at h2; exact fun v => GrowSeq.mono h r _ _ (h2 v)
/-- .. where it does not matter that what was made is apart. -/
theorem wp_region_then (n : Nat) (S : (Nat → Bool) → σ → World → Prop) (A : List (List Nat)) (Ds : List (Fact Rl)) {id : Nat} {a : Act} {w : World} {Q : Exit → Act → World → Prop} {m : Nat} (hm : P.follows .mixedOrders = true) (hz : a.tmps.size = m) (hA : growOK ops m n A = true)
    (s0 : σ) (hS : S (fun _ => false) s0 w.drew)
    (hseq : GrowSeq P ops n A S Ds (fun c => ∀ dn s w, S dn s w → (∀ k, k < n → dn k = true) → (∀ k, k < n → holdsAt ops Ds n k c s w) → wpAny P .any ops Q (ops.size - n) (listedTo n ops.size) c w) 0 (ops.toList.take n) a) : (Code.region id ops true).wp P Q a w :=
  wp_region_apart n S A Ds hm hz hA s0 hS (GrowSeq.mono (fun _ hc dn s w hs hcc hk _ => hc dn s w hs hcc hk) _ _ _ hseq)
/-- .. all of it. -/
theorem wp_region_grow (S : (Nat → Bool) → σ → World → Prop) (A : List (List Nat)) (Ds : List (Fact Rl)) {id : Nat} {a : Act} {w : World} {Q : Exit → Act → World → Prop} {m : Nat} (hm : P.follows .mixedOrders = true) (hz : a.tmps.size = m) (hA : growOK ops m ops.size A = true)
    (s0 : σ) (hS : S (fun _ => false) s0 w.drew)
    (hseq : GrowSeq P ops ops.size A S Ds (fun c => ∀ dn s w, S dn s w → (∀ k, k < ops.size → dn k = true) → (∀ k, k < ops.size → holdsAt ops Ds ops.size k c s w) → Q .normal c w) 0 ops.toList a) : (Code.region id ops true).wp P Q a w := by
  refine wp_region_then ops.size S A Ds hm hz hA s0 hS ?_
  rw [List.take_of_length_le (by simp)]
  refine GrowSeq.mono (fun c hc dn s w hs hcc hk => ?_) _ _ _ hseq
  refine wpAny_done ?_ (hc dn s w hs hcc hk) _
  rw [List.eq_nil_iff_forall_not_mem]
  intro k hkr
  obtain ⟨h1, o, ho, _⟩ := mem_ready.1 hkr
  have hkl : k < ops.size := (Array.getElem?_eq_some_iff.1 ho).1
  simp [listedTo, hkl] at h1
end

section
variable {P : Program} {A : List (List Nat)} {S : (Nat → Bool) → σ → World → Prop} {Ds : List (Fact Rl)}
/-- .. its operations as they are written. -/
theorem wp_growL (l : List Oper) (S : (Nat → Bool) → σ → World → Prop) (A : List (List Nat)) (Ds : List (Fact Rl)) {id : Nat} {a : Act} {w : World} {Q : Exit → Act → World → Prop} {m : Nat} (hm : P.follows .mixedOrders = true) (hz : a.tmps.size = m) (hA : growOK l.toArray m l.toArray.size A = true)
    (s0 : σ) (hS : S (fun _ => false) s0 w.drew)
    (hseq : GrowSeq P l.toArray l.toArray.size A S Ds (fun c => ∀ dn s w, S dn s w → (∀ k, k < l.toArray.size → dn k = true) → (∀ k, k < l.toArray.size → holdsAt l.toArray Ds l.toArray.size k c s w) → Q .normal c w) 0 l a) : (Code.region id l.toArray true).wp P Q a w :=
  wp_region_grow S A Ds hm hz hA s0 hS hseq
theorem wp_thenL (l : List Oper) (n : Nat) (S : (Nat → Bool) → σ → World → Prop) (A : List (List Nat)) (Ds : List (Fact Rl)) {id : Nat} {a : Act} {w : World} {Q : Exit → Act → World → Prop} {m : Nat} (hm : P.follows .mixedOrders = true) (hz : a.tmps.size = m) (hA : growOK l.toArray m n A = true)
    (s0 : σ) (hS : S (fun _ => false) s0 w.drew)
    (hseq : GrowSeq P l.toArray n A S Ds (fun c => ∀ dn s w, S dn s w → (∀ k, k < n → dn k = true) → (∀ k, k < n → holdsAt l.toArray Ds n k c s w) → wpAny P .any l.toArray Q (l.toArray.size - n) (listedTo n l.toArray.size) c w) 0 (l.take n) a) : (Code.region id l.toArray true).wp P Q a w :=
  wp_region_then n S A Ds hm hz hA s0 hS hseq
theorem wp_apartL (l : List Oper) (n : Nat) (S : (Nat → Bool) → σ → World → Prop) (A : List (List Nat)) (Ds : List (Fact Rl)) {id : Nat} {a : Act} {w : World} {Q : Exit → Act → World → Prop} {m : Nat} (hm : P.follows .mixedOrders = true) (hz : a.tmps.size = m) (hA : growOK l.toArray m n A = true)
    (s0 : σ) (hS : S (fun _ => false) s0 w.drew)
    (hseq : GrowSeq P l.toArray n A S Ds (fun c => ∀ dn s w, S dn s w → (∀ k, k < n → dn k = true) → (∀ k, k < n → holdsAt l.toArray Ds n k c s w) → Apart l.toArray n Ds c → wpAny P .any l.toArray Q (l.toArray.size - n) (listedTo n l.toArray.size) c w) 0 (l.take n) a) : (Code.region id l.toArray true).wp P Q a w :=
  wp_region_apart n S A Ds hm hz hA s0 hS hseq
end


/-! ### the steps -/
section
variable {P : Program} {ops : Array Oper} {n : Nat} {A : List (List Nat)} {S : (Nat → Bool) → σ → World → Prop} {Ds : List (Fact Rl)} {fin : Act → Prop} {i : Nat} {o : Oper} {r : List Oper} {c : Act}
/-- What an operation that turns nothing owes: S goes on where it is done, and Rl holds of itself. -/
structure Still (S : (Nat → Bool) → σ → World → Prop) (Rl : σ → World → σ → World → Prop) (i : Nat) : Prop where
  s : ∀ dn s w, S dn s w → S (doneG dn i) s w
  r : ∀ s w, Rl s w s w
/-- An operation that turns nothing, and whose value is known. -/
theorem grow_lit {u : Value} (hst : Still S Rl i) (hf : factAt Ds i = .lit u) (hw : Region.wanted o (yielded ops c.tmps) = true)
    (hrun : ∀ w, (∃ dn s, S dn s w) → (execOp c.eval o).run P w = .ok (.value u) w)
    {c' : Act} (hc : c.put o.dst u = c') (h : GrowSeq P ops n A S Ds fin (i + 1) r c') : GrowSeq P ops n A S Ds fin i (o :: r) c := by
  subst hc
  refine ⟨fun dn s w hS _ H K hK => ?_, by rw [hf]; exact h⟩
  rw [if_pos hw]
  unfold Oper.wp
  rw [hrun w ⟨dn, s, hS⟩]
  exact hK u s w (by rw [hf]; exact rfl) (fun h => by rw [hf] at h; cases h) (hst.s _ _ _ hS) ⟨hst.r _ _, Nat.le_refl _⟩
/-- One that its guard leaves out. -/
theorem grow_skip (hst : Still S Rl i) (hf : factAt Ds i = .lit undef) (hw : Region.wanted o (yielded ops c.tmps) = false)
    {c' : Act} (hc : c.put o.dst undef = c') (h : GrowSeq P ops n A S Ds fin (i + 1) r c') : GrowSeq P ops n A S Ds fin i (o :: r) c := by
  subst hc
  refine ⟨fun dn s w hS _ H K hK => ?_, by rw [hf]; exact h⟩
  rw [if_neg (by rw [hw]; exact Bool.false_ne_true)]
  exact hK undef s w (by rw [hf]; exact rfl) (fun h => by rw [hf] at h; cases h) (hst.s _ _ _ hS) ⟨hst.r _ _, Nat.le_refl _⟩
/-- One that writes, and whose value is known. -/
theorem grow_write {u : Value} (hf : factAt Ds i = .lit u) (hw : Region.wanted o (yielded ops c.tmps) = true)
    (hrun : ∀ dn s w, S dn s w → dn i = false → (∀ k ∈ A.getD i [], holdsAt ops Ds n k c s w) → ∃ s' w', (execOp c.eval o).run P w = .ok (.value u) w' ∧ S (doneG dn i) s' w' ∧ Rl s w s' w' ∧ w.heap.size ≤ w'.heap.size)
    {c' : Act} (hc : c.put o.dst u = c') (h : GrowSeq P ops n A S Ds fin (i + 1) r c') : GrowSeq P ops n A S Ds fin i (o :: r) c := by
  subst hc
  refine ⟨fun dn s w hS hd H K hK => ?_, by rw [hf]; exact h⟩
  rw [if_pos hw]
  obtain ⟨s', w', h1, h3, h4⟩ := hrun dn s w hS hd H
  unfold Oper.wp
  rw [h1]
  exact hK u s' w' (by rw [hf]; exact rfl) (fun h => by rw [hf] at h; cases h) h3 h4
/-- An operation of whose value something is known, whatever it writes. -/
theorem grow_any_op {p : Value → σ → World → Prop} {hp : ∀ v s w s' w', p v s w → Rl s w s' w' → p v s' w'} (hf : factAt Ds i = .prop p hp) (hw : Region.wanted o (yielded ops c.tmps) = true)
    (hrun : ∀ dn s w, S dn s w → dn i = false → (∀ k ∈ A.getD i [], holdsAt ops Ds n k c s w) → ∃ u s' w', (execOp c.eval o).run P w = .ok (.value u) w' ∧ p u s' w' ∧ S (doneG dn i) s' w' ∧ Rl s w s' w' ∧ w.heap.size ≤ w'.heap.size)
    {c' : Value → Act} (hc : ∀ v, c.put o.dst v = c' v) (h : ∀ v, GrowSeq P ops n A S Ds fin (i + 1) r (c' v)) : GrowSeq P ops n A S Ds fin i (o :: r) c := by
  obtain rfl : c' = fun v => c.put o.dst v := funext fun v => (hc v).symm
  refine ⟨fun dn s w hS hd H K hK => ?_, by rw [hf]; exact h⟩
  rw [if_pos hw]
  obtain ⟨u, s', w', h1, h2, h3, h4⟩ := hrun dn s w hS hd H
  unfold Oper.wp
  rw [h1]
  exact hK u s' w' (by rw [hf]; exact h2) (fun h => by rw [hf] at h; cases h) h3 h4
theorem run_call {f : FuncId} {l : List Operand} {ts : Array TypeId} {fn : Func} {code : Code} {ρ : Operand → Value} (ho : o.op = .call { callee := .value (.func f), args := ⟨l⟩, argTypes := ts }) (hρ : ρ (.func f) = .func (.func f) #[] #[])
    (hfn : P.funcs[f]? = some fn) (hname : (fn.name == "runtime.NumGoroutine") = false) (hb : fn.body = some code) (w : World) :
    (execOp ρ o).run P w = .ok (.enter f ⟨l.map ρ⟩) w := by
  have h1 : fn.name ≠ "runtime.NumGoroutine" := by simpa using hname
  unfold execOp
  simp [ho, resolve, hρ, Deferred.ofValue, invoke, callFunc, hfn, h1, hb]
/-- A call, of whose value something is known. -/
theorem grow_any_call {f : FuncId} {l : List Operand} {ts : Array TypeId} {fn : Func} {code : Code} {p : Value → σ → World → Prop} {hp : ∀ v s w s' w', p v s w → Rl s w s' w' → p v s' w'} (ho : o.op = .call { callee := .value (.func f), args := ⟨l⟩, argTypes := ts })
    (hfn : P.funcs[f]? = some fn) (hname : (fn.name == "runtime.NumGoroutine") = false) (hb : fn.body = some code)
    (hf : factAt Ds i = .prop p hp) (hw : Region.wanted o (yielded ops c.tmps) = true)
    (hrun : ∀ dn s w, S dn s w → dn i = false → (∀ k ∈ A.getD i [], holdsAt ops Ds n k c s w) → Calls P f ⟨l.map c.eval⟩ w (fun e w' => ∃ v s', e = .returned v ∧ p v s' w' ∧ S (doneG dn i) s' w' ∧ Rl s w s' w' ∧ w.heap.size ≤ w'.heap.size))
    {c' : Value → Act} (hc : ∀ v, c.put o.dst v = c' v) (h : ∀ v, GrowSeq P ops n A S Ds fin (i + 1) r (c' v)) : GrowSeq P ops n A S Ds fin i (o :: r) c := by
  obtain rfl : c' = fun v => c.put o.dst v := funext fun v => (hc v).symm
  refine ⟨fun dn s w hs hd H K hK => ?_, by rw [hf]; exact h⟩
  rw [if_pos hw]
  unfold Oper.wp
  rw [run_call ho rfl hfn hname hb]
  refine (hrun dn s w hs hd H).mono ?_
  rintro e w' ⟨v, s', rfl, h2, h1, hbl⟩
  exact hK v s' w' (by rw [hf]; exact h2) (fun h => by rw [hf] at h; cases h) h1 hbl
/-- A call whose value is known. -/
theorem grow_lit_call {f : FuncId} {l : List Operand} {ts : Array TypeId} {fn : Func} {code : Code} {u : Value} (ho : o.op = .call { callee := .value (.func f), args := ⟨l⟩, argTypes := ts })
    (hfn : P.funcs[f]? = some fn) (hname : (fn.name == "runtime.NumGoroutine") = false) (hb : fn.body = some code)
    (hf : factAt Ds i = .lit u) (hw : Region.wanted o (yielded ops c.tmps) = true)
    (hrun : ∀ dn s w, S dn s w → dn i = false → (∀ k ∈ A.getD i [], holdsAt ops Ds n k c s w) → Calls P f ⟨l.map c.eval⟩ w (fun e w' => ∃ s', e = .returned u ∧ S (doneG dn i) s' w' ∧ Rl s w s' w' ∧ w.heap.size ≤ w'.heap.size))
    {c' : Act} (hc : c.put o.dst u = c') (h : GrowSeq P ops n A S Ds fin (i + 1) r c') : GrowSeq P ops n A S Ds fin i (o :: r) c := by
  subst hc
  refine ⟨fun dn s w hs hd H K hK => ?_, by rw [hf]; exact h⟩
  rw [if_pos hw]
  unfold Oper.wp
  rw [run_call ho rfl hfn hname hb]
  refine (hrun dn s w hs hd H).mono ?_
  rintro e w' ⟨s', rfl, h1, hbl⟩
  exact hK u s' w' (by rw [hf]; exact rfl) (fun h => by rw [hf] at h; cases h) h1 hbl
end

end Go.Proofs.YthfljimgpcignaaGreatDoor.GG

/-
  Regions that draw their order and in which one operation writes: what holds ahead of it, what behind.
-/
namespace Go.Proofs.YthfljimgpcignaaGreatDoor
open Go.RowKit

/-- While operation j is not done A holds, then B. -/
structure GG.OneW (j : Nat) (A B : World → Prop) (dn : Nat → Bool) (_ : Unit) (w : World) : Prop where
  g0 : dn j = false → A w
  g1 : dn j = true → B w
def GG.RlW (_ : Unit) (_ : World) (_ : Unit) (_ : World) : Prop := True
namespace GG.OneW
variable {j : Nat} {A B : World → Prop} {w w' : World} {dn : Nat → Bool} {s : Unit}
theorem start (h : A w) : GG.OneW j A B (fun _ => false) () w := ⟨fun _ => h, fun h => (by cases h)⟩
theorem still {i : Nat} (hj : j ≠ i) : GG.Still (GG.OneW j A B) GG.RlW i :=
  ⟨fun dn _ _ h => ⟨fun h1 => h.g0 (by rw [← show GG.doneG dn i j = dn j from if_neg hj]; exact h1), fun h1 => h.g1 (by rw [← show GG.doneG dn i j = dn j from if_neg hj]; exact h1)⟩, fun _ _ => trivial⟩
theorem put (h : B w') : GG.OneW j A B (GG.doneG dn j) s w' :=
  ⟨fun e => (by rw [show GG.doneG dn j j = true from if_pos rfl] at e; cases e), fun _ => h⟩
/-- What holds either way. -/
theorem both (h : GG.OneW j A B dn s w) : A w ∨ B w := by
  cases e : dn j with
  | false => exact Or.inl (h.g0 e)
  | true => exact Or.inr (h.g1 e)
end GG.OneW

end Go.Proofs.YthfljimgpcignaaGreatDoor
