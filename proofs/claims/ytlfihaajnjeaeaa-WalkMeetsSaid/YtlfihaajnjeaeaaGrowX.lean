/-
  Regions that draw their order, some operations of which look at no memory and may come late: they are taken first.
-/
import Derived.Test.YtlfihaajnjeaeaaGrow
namespace Go.Proofs.Ytlfihaajnjeaeaa
open Go.RowKit

/-- The edges of the first n operations. -/
def growPre (ops : Array Oper) (m n : Nat) (A : List (List Nat)) : Bool :=
  Region.noSelect ops && decide (n ≤ ops.size) && ((List.range n).all fun i =>
    match ops[i]? with
    | none => false
    | some o =>
      (A.getD i []).all (fun k => decide (k < i) && o.after.toList.any fun e => Region.binds .any e && (e.on == k || (A.getD e.on []).contains k)) &&
      (o.after.toList.all fun e => !Region.binds .any e || decide (e.on < i)) &&
      ((o.looksAt ops).all fun t => (List.range n).all fun k => dstAt ops n k != some t || (A.getD i []).contains k) &&
      (match o.dst with
        | none => true
        | some d => decide (d < m) && (List.range n).all fun k => k == i || dstAt ops n k != some d))
/-- Behind k, by an edge or by what an edge's end looks at. -/
def behindB (A : List (List Nat)) (o : Oper) (k : Nat) : Bool := o.after.toList.any fun e => Region.binds .any e && (e.on == k || (A.getD e.on []).contains k)
/-- The operations that are ahead of one. -/
def aheadOf (ops : Array Oper) (A : List (List Nat)) (o : Oper) : Array Bool := ((List.range ops.size).map fun j => behindB A o j).toArray
/-- .. and of the operations X, which look at no memory; the others are behind all of the first n but these, and behind all that these wait for. -/
def growOKX (ops : Array Oper) (m n : Nat) (A : List (List Nat)) (X : List Nat) : Bool :=
  growPre ops m n A && (X.all fun i => decide (i < n) && (match ops[i]? with | none => false | some o => o.dst.isSome && Region.free .any ops (aheadOf ops A o) i)) &&
  (List.range ops.size).all fun i => decide (i < n) || match ops[i]? with
    | none => false
    | some o => (List.range n).all fun k => behindB A o k || (X.contains k && match ops[k]? with | none => false | some ok => ok.after.toList.all fun e => !Region.binds .any e || behindB A o e.on)

theorem behindB_of {A : List (List Nat)} {o : Oper} {k : Nat} (h : behindB A o k = true) : ∃ e ∈ o.after, Region.binds .any e = true ∧ (e.on = k ∨ k ∈ A.getD e.on []) := by
  obtain ⟨e, he, hb⟩ := List.any_eq_true.1 h
  simp only [Bool.and_eq_true, Bool.or_eq_true, beq_iff_eq] at hb
  exact ⟨e, by simpa using he, hb.1, hb.2.imp id (fun h => by simpa using h)⟩
theorem growPre_at {ops : Array Oper} {m n : Nat} {A : List (List Nat)} (h : growPre ops m n A = true) {i : Nat} {o : Oper} (ho : ops[i]? = some o) (hin : i < n) : GrowAt ops m n A i o := by
  unfold growPre at h
  simp only [Bool.and_eq_true] at h
  have h1 := List.all_eq_true.1 h.2 i (List.mem_range.2 hin)
  rw [ho] at h1
  simp only [Bool.and_eq_true] at h1
  obtain ⟨⟨⟨h2, h3⟩, h4⟩, h5⟩ := h1
  refine ⟨fun k hk => ?_, fun e he hb => ?_, fun t ht k hk => ?_, fun d hd => ?_, fun d hd k hk => ?_⟩
  · have := List.all_eq_true.1 h2 k hk
    simp only [Bool.and_eq_true, decide_eq_true_eq] at this
    refine ⟨this.1, ?_⟩
    obtain ⟨e, he, hb⟩ := List.any_eq_true.1 this.2
    simp only [Bool.and_eq_true, Bool.or_eq_true, beq_iff_eq] at hb
    exact ⟨e, by simpa using he, hb.1, hb.2.imp id (fun h => by simpa using h)⟩
  · have := List.all_eq_true.1 h3 e (by simpa using he)
    simpa [hb] using this
  · have := List.all_eq_true.1 (List.all_eq_true.1 h4 t ht) k (List.mem_range.2 (dstAt_lt hk))
    simpa [hk] using this
  · rw [hd] at h5
    simp only [Bool.and_eq_true, decide_eq_true_eq] at h5
    exact h5.1
  · rw [hd] at h5
    simp only [Bool.and_eq_true] at h5
    have := List.all_eq_true.1 h5.2 k (List.mem_range.2 (dstAt_lt hk))
    simpa [hk] using this
theorem growPre_sel {ops : Array Oper} {m n : Nat} {A : List (List Nat)} (h : growPre ops m n A = true) : Region.noSelect ops = true := by
  unfold growPre at h
  simp only [Bool.and_eq_true] at h
  exact h.1.1
theorem growPre_le {ops : Array Oper} {m n : Nat} {A : List (List Nat)} (h : growPre ops m n A = true) : n ≤ ops.size := by
  unfold growPre at h
  simp only [Bool.and_eq_true, decide_eq_true_eq] at h
  exact h.1.2
theorem growOKX_pre {ops : Array Oper} {m n : Nat} {A : List (List Nat)} {X : List Nat} (h : growOKX ops m n A X = true) : growPre ops m n A = true := by
  unfold growOKX at h
  simp only [Bool.and_eq_true] at h
  exact h.1.1
theorem growOKX_late {ops : Array Oper} {m n : Nat} {A : List (List Nat)} {X : List Nat} (h : growOKX ops m n A X = true) {i : Nat} {o : Oper} (hi : i ∈ X) (ho : ops[i]? = some o) : i < n ∧ ∃ d, o.dst = some d ∧ Region.free .any ops (aheadOf ops A o) i = true := by
  unfold growOKX at h
  simp only [Bool.and_eq_true] at h
  have h1 := List.all_eq_true.1 h.1.2 i hi
  rw [ho] at h1
  simp only [Bool.and_eq_true, decide_eq_true_eq] at h1
  obtain ⟨d, hd⟩ := Option.isSome_iff_exists.1 h1.2.1
  exact ⟨h1.1, d, hd, h1.2.2⟩
theorem growOKX_behind {ops : Array Oper} {m n : Nat} {A : List (List Nat)} {X : List Nat} (h : growOKX ops m n A X = true) {i : Nat} {o : Oper} (ho : ops[i]? = some o) (hin : ¬ i < n) (k : Nat) (hk : k < n) :
    (∃ e ∈ o.after, Region.binds .any e = true ∧ (e.on = k ∨ k ∈ A.getD e.on [])) ∨ (k ∈ X ∧ ∃ ok, ops[k]? = some ok ∧ ∀ e ∈ ok.after, Region.binds .any e = true → ∃ e' ∈ o.after, Region.binds .any e' = true ∧ (e'.on = e.on ∨ e.on ∈ A.getD e'.on [])) := by
  unfold growOKX at h
  simp only [Bool.and_eq_true] at h
  have h1 := List.all_eq_true.1 h.2 i (List.mem_range.2 (Array.getElem?_eq_some_iff.1 ho).1)
  rw [ho] at h1
  simp only [hin, decide_false, Bool.false_or] at h1
  have h2 := List.all_eq_true.1 h1 k (List.mem_range.2 hk)
  simp only [Bool.or_eq_true, Bool.and_eq_true] at h2
  rcases h2 with h2 | ⟨h2, h3⟩
  · exact Or.inl (behindB_of h2)
  · right
    refine ⟨by simpa using h2, ?_⟩
    cases hok : ops[k]? with
    | none => rw [hok] at h3; cases h3
    | some ok =>
      rw [hok] at h3
      refine ⟨ok, rfl, fun e he hb => ?_⟩
      have h4 := List.all_eq_true.1 h3 e (by simpa using he)
      simp only [hb, Bool.not_true, Bool.false_or] at h4
      exact behindB_of h4

/-- A part of a pair that is known. -/
theorem run_extract {o : Oper} {x : Operand} {i : Nat} (ho : o.op = .extract x i) (ρ : Operand → Value) (xs : Array Value) (u : Value) (he : ρ x = .tuple xs) (hu : xs[i]? = some u) (P : Program) (w : World) : (execOp ρ o).run P w = .ok (.value u) w := by
  unfold execOp
  rw [ho]
  simp [Instr.extract, he, hu]

section
variable {P : Program} {ops : Array Oper} {n : Nat} {A : List (List Nat)} {S : World → Prop} {Ds : List Fact} {X : List Nat}

/-- The operations X look at no memory. -/
def PureX (P : Program) (ops : Array Oper) (n : Nat) (A : List (List Nat)) (S : World → Prop) (Ds : List Fact) (X : List Nat) : Prop :=
  ∀ i ∈ X, ∀ o, ops[i]? = some o → ∀ (c : Act) (w : World), S w → (∀ k ∈ A.getD i [], holdsAt ops Ds n k c w) → ∃ v, Region.wanted o (yielded ops c.tmps) = true ∧ (∀ w', (execOp c.eval o).run P w' = .ok (.value v) w') ∧ (factAt Ds i).holds v w ∧ (factAt Ds i).isFresh = false
theorem PureX.one {i : Nat} {o : Oper} (ho : ops[i]? = some o) (h : ∀ (c : Act) (w : World), S w → (∀ k ∈ A.getD i [], holdsAt ops Ds n k c w) → ∃ v, Region.wanted o (yielded ops c.tmps) = true ∧ (∀ w', (execOp c.eval o).run P w' = .ok (.value v) w') ∧ (factAt Ds i).holds v w ∧ (factAt Ds i).isFresh = false) : PureX P ops n A S Ds [i] := by
  intro j hj o' ho'
  obtain rfl := List.mem_singleton.1 hj
  obtain rfl := Option.some.inj (ho.symm.trans ho')
  exact h

/-- What the walk's frame has in an operation's slot. -/
theorem mixed_atX {m : Nat} {a0 : Act} (a : Act) (hA : growPre ops m n A = true) (hm : a0.tmps.size = m) {i k : Nat} {t : Tmp} (hk : dstAt ops n k = some t) (hki : k < i) (hin : i ≤ n) : (mixed Ds a 0 (ops.toList.take i) a0).tmps.getD t undef = (factAt Ds k).pickOr (a.tmps.getD t undef) := by
  obtain ⟨ok, hok, hd, hkn⟩ := dstAt_some hk
  have Gk := growPre_at hA hok hkn
  rw [mixed_same a t (ops.toList.take i) 0 a0 k ok (by rw [List.getElem?_take, if_pos hki]; simpa using hok) hd (fun j o' hj hd' => by
    obtain ⟨hj', hji⟩ := take_at hj
    exact Gk.apart t hd j (by rw [dstAt_of hj' (by omega), hd'])) (by rw [hm]; exact Gk.small t hd), Nat.zero_add]

/-- The frames agree wherever an operation looks. -/
theorem grow_agreeX {a0 a : Act} {w : World} {listed : Array Bool} (hA : growPre ops a0.tmps.size n A = true) (I : GrowInv ops n A S Ds a0 listed a w) {i : Nat} {o : Oper} (ho : ops[i]? = some o) (hin : i < n)
    (hl : ∀ k ∈ A.getD i [], listed.getD k false = true) {t : Tmp} (ht : t ∈ o.looksAt ops) : (mixed Ds a 0 (ops.toList.take i) a0).tmps.getD t undef = a.tmps.getD t undef := by
  have G := growPre_at hA ho hin
  by_cases hk : ∃ k, dstAt ops n k = some t
  · obtain ⟨k, hk⟩ := hk
    have hkA := G.looks t ht k hk
    rw [mixed_atX a hA rfl hk (G.anc k hkA).1 (Nat.le_of_lt hin)]
    have hh := I.known k (hl k hkA)
    unfold holdsAt at hh
    rw [hk] at hh
    cases hf : factAt Ds k with
    | lit u => rw [hf] at hh; exact hh.symm
    | prop p hp => rfl
    | fresh p hp => rfl
  · have hn : ∀ k, dstAt ops n k ≠ some t := fun k h => hk ⟨k, h⟩
    rw [mixed_other a t _ _ _ (fun o' ho' hd' => by
      obtain ⟨j, hj⟩ := List.getElem?_of_mem ho'
      obtain ⟨hj', hji⟩ := take_at hj
      exact hn j (by rw [dstAt_of hj' (by omega), hd'])), I.rest t hn]

/-- What is known stays known behind one of the operations. -/
theorem growInv_step {a0 a : Act} {w w' : World} {listed : Array Bool} {v : Value} (hA : growPre ops a0.tmps.size n A = true) (I : GrowInv ops n A S Ds a0 listed a w) {i : Nat} {o : Oper} (ho : ops[i]? = some o) (hin : i < n)
    (hanc : ∀ k ∈ A.getD i [], listed.getD k false = true) (hil : i < listed.size) (hv : (factAt Ds i).holds v w') (hnew : (factAt Ds i).isFresh = true → NewPtr w w' v) (hS : S w') (hb : Below w.heap.size w w') :
    GrowInv ops n A S Ds a0 (listed.setIfInBounds i true) (a.put o.dst v) w' := by
  have G := growPre_at hA ho hin
  -- a slot of another operation is as it was
  have hslot : ∀ k t, k ≠ i → dstAt ops n k = some t → (a.put o.dst v).tmps.getD t undef = a.tmps.getD t undef := fun k t hki hd => put_getD_ne _ _ _ _ (fun e => hki (G.apart t e k hd))
  have hhere : ∀ t, dstAt ops n i = some t → (a.put o.dst v).tmps.getD t undef = v := fun t hd => by
    rw [dstAt_of ho hin] at hd
    rw [hd]
    exact put_getD_same _ _ _ (by rw [I.size]; exact G.small t hd)
  refine ⟨hS, ?_, ?_, ?_, ?_, ?_, ?_, ?_, ?_, ?_⟩
  · cases hd : o.dst <;> simp [Act.put, I.defers]
  · cases hd : o.dst <;> simp [Act.put, I.size]
  · intro t ht
    rw [put_getD_ne _ _ _ _ (by rw [← dstAt_of (n := n) ho hin]; exact ht i)]
    exact I.rest t ht
  · simp [I.full]
  · intro k hk
    by_cases hki : k = i
    · omega
    · rw [getD_set_ne false (Ne.symm hki)] at hk
      exact I.early k hk
  · intro k hk
    by_cases hki : k = i
    · subst hki
      unfold holdsAt
      rw [dstAt_of ho hin]
      cases hd : o.dst with
      | none => exact ⟨v, hv⟩
      | some d =>
        show (factAt Ds k).holds ((a.put (some d) v).tmps.getD d undef) w'
        rw [put_getD_same _ _ _ (by rw [I.size]; exact G.small d hd)]
        exact hv
    · rw [getD_set_ne false (Ne.symm hki)] at hk
      have hh := I.known k hk
      unfold holdsAt at hh ⊢
      cases hd : dstAt ops n k with
      | none => rw [hd] at hh; obtain ⟨u, hu⟩ := hh; exact ⟨u, Fact.grow hu hb⟩
      | some t =>
        rw [hd] at hh
        show (factAt Ds k).holds ((a.put o.dst v).tmps.getD t undef) w'
        rw [put_getD_ne _ _ _ _ (fun e => hki (G.apart t e k hd))]
        exact Fact.grow hh hb
  · intro k hk j hj
    by_cases hki : k = i
    · subst hki; exact getD_set_true (hanc j hj)
    · rw [getD_set_ne false (Ne.symm hki)] at hk
      exact getD_set_true (I.closed k hk j hj)
  · intro k hk hfr t hd
    by_cases hki : k = i
    · subst hki
      obtain ⟨b, hb1, _, hb3⟩ := hnew hfr
      exact ⟨b, by rw [hhere t hd, hb1], hb3⟩
    · rw [getD_set_ne false (Ne.symm hki)] at hk
      obtain ⟨b, hb1, hb2⟩ := I.made k hk hfr t hd
      exact ⟨b, by rw [hslot k t hki hd, hb1], Nat.lt_of_lt_of_le hb2 hb.size⟩
  · intro j k hne hj hk hfj hfk t u hdj hdk
    by_cases hji : j = i
    · have hki : k ≠ i := fun e => hne (hji.trans e.symm)
      subst hji
      rw [getD_set_ne false (Ne.symm hki)] at hk
      obtain ⟨b, hb1, hb2, _⟩ := hnew hfj
      obtain ⟨b', hb1', hb2'⟩ := I.made k hk hfk u hdk
      rw [hhere t hdj, hslot k u hki hdk, hb1, hb1']
      intro e
      injection e with e
      omega
    · rw [getD_set_ne false (Ne.symm hji)] at hj
      by_cases hki : k = i
      · subst hki
        obtain ⟨b, hb1, hb2, _⟩ := hnew hfk
        obtain ⟨b', hb1', hb2'⟩ := I.made j hj hfj t hdj
        rw [hhere u hdk, hslot j t hji hdj, hb1, hb1']
        intro e
        injection e with e
        omega
      · rw [getD_set_ne false (Ne.symm hki)] at hk
        rw [hslot j t hji hdj, hslot k u hki hdk]
        exact I.distinct j k hne hj hk hfj hfk t u hdj hdk

theorem grow_anyX {a0 : Act} {Q : Exit → Act → World → Prop} (hX : growOKX ops a0.tmps.size n A X = true) (hP : PureX P ops n A S Ds X) (hQ : ∀ (ch : List PanicEntry) (a : Act) (w : World) (t : Tmp) (v : Value), Q (.panic ch) (a.put (some t) v) w → Q (.panic ch) a w)
    (hseq : GrowSeq P ops n A S Ds (fun c => ∀ w, S w → (∀ k, k < n → holdsAt ops Ds n k c w) → Apart ops n Ds c → wpAny P .any ops Q (ops.size - n) (listedTo n ops.size) c w) 0 (ops.toList.take n) a0) :
    ∀ (fuel : Nat) (listed : Array Bool) (a : Act) (w : World), GrowInv ops n A S Ds a0 listed a w → listed.toList.count false = fuel → wpAny P .any ops Q fuel listed a w := by
  have hA := growOKX_pre hX
  have hsel := growPre_sel hA
  have hle := growPre_le hA
  -- all are listed: the walk's own end
  have hend : ∀ (fuel : Nat) (listed : Array Bool) (a : Act) (w : World), GrowInv ops n A S Ds a0 listed a w → listed.toList.count false = fuel → (∀ k, k < n → listed.getD k false = true) → wpAny P .any ops Q fuel listed a w := by
    intro fuel listed a w I hc hall
    have hfin := (growSeq_at a (ops.toList.take n) 0 a0 hseq).2
    have e : mixed Ds a 0 (ops.toList.take n) a0 = a := by
      have e1 := mixed_defers (Ds := Ds) a (ops.toList.take n) 0 a0
      have e2 := mixed_size (Ds := Ds) a (ops.toList.take n) 0 a0
      have e3 : (mixed Ds a 0 (ops.toList.take n) a0).tmps = a.tmps := by
        apply Array.ext
        · rw [e2, I.size]
        · intro t h1 h2
          have hg : (mixed Ds a 0 (ops.toList.take n) a0).tmps.getD t undef = a.tmps.getD t undef := by
            by_cases hk : ∃ k, dstAt ops n k = some t
            · obtain ⟨k, hk⟩ := hk
              have hkn := dstAt_lt hk
              rw [mixed_atX a hA rfl hk hkn (Nat.le_refl _)]
              have hh := I.known k (hall k hkn)
              unfold holdsAt at hh
              rw [hk] at hh
              cases hf : factAt Ds k with
              | lit u => rw [hf] at hh; exact hh.symm
              | prop p hp => rfl
              | fresh p hp => rfl
            · have hn : ∀ k, dstAt ops n k ≠ some t := fun k h => hk ⟨k, h⟩
              rw [mixed_other a t _ _ _ (fun o' ho' hd' => by
                obtain ⟨j, hj⟩ := List.getElem?_of_mem ho'
                obtain ⟨hj', hji⟩ := take_at hj
                exact hn j (by rw [dstAt_of hj' hji, hd'])), I.rest t hn]
          simpa [h1, h2] using hg
      generalize mixed Ds a 0 (ops.toList.take n) a0 = m at *
      obtain ⟨mt, md⟩ := m
      obtain ⟨at_, ad⟩ := a
      simp only at e1 e3
      rw [e3, e1, ← I.defers]
    rw [e] at hfin
    have hl : listed = listedTo n ops.size := by
      apply Array.ext
      · rw [I.full]; simp [listedTo]; omega
      · intro k h1 h2
        by_cases hkn : k < n
        · have := hall k hkn
          simp only [Array.getD_eq_getD_getElem?, Array.getElem?_eq_getElem h1, Option.getD_some] at this
          rw [this]
          simp [listedTo, hkn]
        · have : ¬ listed.getD k false = true := fun h => hkn (I.early k h)
          simp only [Array.getD_eq_getD_getElem?, Array.getElem?_eq_getElem h1, Option.getD_some] at this
          have h3 : listed[k] = false := by simpa using this
          rw [h3]
          simp [listedTo, List.getElem_append, hkn]
    have hf : fuel = ops.size - n := by
      rw [← hc, hl]
      simp [listedTo, List.count_append, List.count_replicate]
    rw [hf, hl]
    exact hfin w I.s (fun k hk => I.known k (hall k hk)) (fun j k hj hk hne => I.distinct j k hne (hall j hj) (hall k hk))
  intro fuel
  induction fuel with
  | zero =>
    intro listed a w I hc
    refine hend 0 listed a w I hc fun k hk => ?_
    have hk' : k < listed.toList.length := by simp only [Array.length_toList]; rw [I.full]; omega
    have : listed.toList[k] ≠ false := fun h => List.count_eq_zero.1 hc (h ▸ List.getElem_mem hk')
    have h2 : k < listed.size := by simpa using hk'
    simpa [h2] using this
  | succ fuel ih =>
    intro listed a w I hc
    by_cases hall : ∀ k, k < n → listed.getD k false = true
    · exact hend (fuel + 1) listed a w I hc hall
    -- those that look at no memory come first
    by_cases hfirst : ∃ i ∈ X, i ∈ Region.ready .any ops listed
    · obtain ⟨i, hiX, hi⟩ := hfirst
      obtain ⟨h1, o, ho, h2⟩ := mem_ready.1 hi
      obtain ⟨hin, d, hd, hfree⟩ := growOKX_late hX hiX ho
      have G := growPre_at hA ho hin
      have hanc : ∀ k ∈ A.getD i [], listed.getD k false = true := by
        intro k hk
        obtain ⟨_, e, he, hb, rfl | hm⟩ := G.anc k hk
        · exact h2 e he hb
        · exact I.closed e.on (h2 e he hb) k hm
      have hio : i < ops.size := (Array.getElem?_eq_some_iff.1 ho).1
      have hil : i < listed.size := by rw [I.full]; exact hio
      obtain ⟨v, hw, hrun, hv, hnf⟩ := hP i hiX o ho a w I.s (fun k hk => I.known k (hanc k hk))
      refine wpAny_first ho (Region.noSelect_spec hsel) (fun ch a' w' h => hQ ch a' w' d v (by rw [← hd]; exact h)) fuel listed a w (fun j oj hj hne hun hno => ?_) hi (Or.inl ⟨hw, hrun⟩) ?_
      · refine Region.free_spec ho hfree j oj hj hne ?_ hno
        have hjs : j < ops.size := (Array.getElem?_eq_some_iff.1 hj).1
        have hjl : j < listed.size := by rw [I.full]; exact hjs
        have hnb : behindB A o j = false := by
          cases hbj : behindB A o j with
          | false => rfl
          | true =>
            obtain ⟨e, he, hb, hm⟩ := behindB_of hbj
            have hlj : listed.getD j false = true := by
              rcases hm with rfl | hm
              · exact h2 e he hb
              · exact I.closed e.on (h2 e he hb) j hm
            simp only [Array.getD_eq_getD_getElem?, Array.getElem?_eq_getElem hjl, Option.getD_some] at hun hlj
            rw [hun] at hlj
            cases hlj
        simp [aheadOf, hjs, hnb]
      · refine ih _ _ _ (growInv_step hA I ho hin hanc hil hv (fun h => by rw [hnf] at h; cases h) I.s (Below.refl _ _)) ?_
        have := count_set_lt hil h1
        omega
    -- one of the first n is not listed: the least of these may come up, and none behind them may
    have hlt : ∀ i ∈ Region.ready .any ops listed, i < n := by
      intro i hi
      obtain ⟨h1, o, ho, h2⟩ := mem_ready.1 hi
      rcases Nat.lt_or_ge i n with h | h
      · exact h
      · exfalso
        refine hall fun k hk => ?_
        have hlis : ∀ k', (∃ e ∈ o.after, Region.binds .any e = true ∧ (e.on = k' ∨ k' ∈ A.getD e.on [])) → listed.getD k' false = true := by
          rintro k' ⟨e, he, hb, rfl | hm⟩
          · exact h2 e he hb
          · exact I.closed e.on (h2 e he hb) k' hm
        rcases growOKX_behind hX ho (by omega) k hk with hb | ⟨hkX, ok, hok, hall'⟩
        · exact hlis k hb
        · refine Classical.byContradiction fun hno => hfirst ⟨k, hkX, ?_⟩
          have hks : k < listed.size := by rw [I.full]; exact (Array.getElem?_eq_some_iff.1 hok).1
          rw [mem_ready]
          exact ⟨by simpa [hks] using hno, ok, hok, fun e he hb => hlis e.on (hall' e he hb)⟩
    refine ⟨fun hr => ?_, fun i hi => ?_⟩
    · exfalso
      have hex : ∃ k, k < n ∧ listed.getD k false ≠ true := by
        rcases Classical.em (∃ k, k < n ∧ listed.getD k false ≠ true) with h | h
        · exact h
        · exact absurd (fun k hk => Classical.byContradiction fun hn => h ⟨k, hk, hn⟩) hall
      have hmin : ∀ m k, k ≤ m → k < n → listed.getD k false ≠ true → False := by
        intro m
        induction m with
        | zero =>
          intro k hkm hkn hkl
          obtain rfl : k = 0 := by omega
          have hk' : 0 < ops.size := by omega
          have hk2 : 0 < listed.size := by rw [I.full]; exact hk'
          have hmem : 0 ∈ Region.ready .any ops listed := by
            rw [mem_ready]
            refine ⟨by simpa [hk2] using hkl, ops[0], Array.getElem?_eq_getElem hk', fun e he hb => ?_⟩
            have := (growPre_at hA (Array.getElem?_eq_getElem hk') hkn).edge e he hb
            omega
          rw [hr] at hmem
          cases hmem
        | succ m ihm =>
          intro k hkm hkn hkl
          have hk' : k < ops.size := by omega
          have hk2 : k < listed.size := by rw [I.full]; exact hk'
          have hmem : k ∈ Region.ready .any ops listed := by
            rw [mem_ready]
            refine ⟨by simpa [hk2] using hkl, ops[k], Array.getElem?_eq_getElem hk', fun e he hb => ?_⟩
            have h3 := (growPre_at hA (Array.getElem?_eq_getElem hk') hkn).edge e he hb
            exact Classical.byContradiction fun hn => ihm e.on (by omega) (by omega) hn
          rw [hr] at hmem
          cases hmem
      obtain ⟨k, hkn, hkl⟩ := hex
      exact hmin k k (Nat.le_refl _) hkn hkl
    obtain ⟨h1, o, ho, h2⟩ := mem_ready.1 hi
    have hin := hlt i hi
    have G := growPre_at hA ho hin
    have hio : i < ops.size := (Array.getElem?_eq_some_iff.1 ho).1
    have hil : i < listed.size := by rw [I.full]; exact hio
    have hanc : ∀ k ∈ A.getD i [], listed.getD k false = true := by
      intro k hk
      obtain ⟨_, e, he, hb, rfl | hm⟩ := G.anc k hk
      · exact h2 e he hb
      · exact I.closed e.on (h2 e he hb) k hm
    have hsz := mixed_size (Ds := Ds) a (ops.toList.take i) 0 a0
    have hob := (growSeq_at a (ops.toList.take n) 0 a0 hseq).1 i o (by rw [List.getElem?_take, if_pos hin]; simpa using ho)
    rw [Nat.zero_add, List.take_take, Nat.min_eq_left (Nat.le_of_lt hin)] at hob
    refine grow_step ho (fun cs b => Region.noSelect_spec hsel i o cs b ho) (by rw [hsz, I.size]) (fun t ht => grow_agreeX hA I ho hin hanc ht) (fun d hd => by rw [hsz]; exact G.small d hd) hob I.s ?_ ?_
    · intro k hk
      have hh := I.known k (hanc k hk)
      have hki := (G.anc k hk).1
      unfold holdsAt at hh ⊢
      cases hd : dstAt ops n k with
      | none => rw [hd] at hh; exact hh
      | some t =>
        rw [hd] at hh
        show (factAt Ds k).holds ((mixed Ds a 0 (ops.toList.take i) a0).tmps.getD t undef) w
        rw [mixed_atX a hA rfl hd hki (Nat.le_of_lt hin)]
        cases hf : factAt Ds k with
        | lit u => rfl
        | prop p hp => rw [hf] at hh; exact hh
        | fresh p hp => rw [hf] at hh; exact hh
    · intro v w' hv hnew hS hb
      refine ih _ _ _ (growInv_step hA I ho hin hanc hil hv hnew hS hb) ?_
      have := count_set_lt hil h1
      omega

/-- A region that draws its order: its first n operations, those of X taken first; what comes behind these is still to come. -/
theorem wp_thenX (l : List Oper) (n : Nat) (X : List Nat) (S : World → Prop) (A : List (List Nat)) (Ds : List Fact) {id : Nat} {a : Act} {w : World} {Q : Exit → Act → World → Prop} {m : Nat} (hm : P.follows .mixedOrders = true) (hz : a.tmps.size = m) (hA : growOKX l.toArray m n A X = true)
    (hQ : ∀ (ch : List PanicEntry) (a : Act) (w : World) (t : Tmp) (v : Value), Q (.panic ch) (a.put (some t) v) w → Q (.panic ch) a w) (hS : S w.drew)
    (hP : PureX P l.toArray n A S Ds X)
    (hseq : GrowSeq P l.toArray n A S Ds (fun c => ∀ w, S w → (∀ k, k < n → holdsAt l.toArray Ds n k c w) → wpAny P .any l.toArray Q (l.toArray.size - n) (listedTo n l.toArray.size) c w) 0 (l.take n) a) : (Code.region id l.toArray true).wp P Q a w := by
  have hno : ∀ k, ¬ (Array.replicate l.toArray.size false).getD k false = true := fun k hk => by
    by_cases h : k < l.toArray.size
    · rw [Array.getD_eq_getD_getElem?, Array.getElem?_replicate, if_pos h] at hk; cases hk
    · rw [Array.getD_eq_getD_getElem?, Array.getElem?_replicate, if_neg h] at hk; cases hk
  exact wp_region_any hm (grow_anyX (hz ▸ hA) hP hQ (GrowSeq.mono (fun _ hc w hs hk _ => hc w hs hk) _ _ _ hseq) l.toArray.size _ a _ ⟨hS, rfl, rfl, fun _ _ => rfl, by simp, fun k hk => absurd hk (hno k), fun k hk => absurd hk (hno k), fun k hk => absurd hk (hno k), fun k hk => absurd hk (hno k), fun j k _ hj => absurd hj (hno j)⟩ (by rw [Array.toList_replicate, List.count_replicate]; simp))
end

end Go.Proofs.Ytlfihaajnjeaeaa
