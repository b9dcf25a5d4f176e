/-
  Regions that draw their order, walked once in the text's order, where some of the operations write: what is told of the world hangs on what has been done.
-/
import Derived.Test.YtgihaakgadmidaaGreatGrow
namespace Go.Proofs.YtgihaakgadmidaaGreat
open Go.RowKit

/-- .. and operation i. -/
def done (l : Nat → Bool) (i : Nat) : Nat → Bool := fun k => if k = i then true else l k
/-- All facts are values. -/
def Lits (Ds : List Fact) : Prop := ∀ f ∈ Ds, ∃ u, f = .lit u
theorem Lits.at {Ds : List Fact} (h : Lits Ds) (k : Nat) : ∃ u, factAt Ds k = .lit u := by
  unfold factAt
  rw [List.getD_eq_getElem?_getD]
  cases hk : Ds[k]? with
  | none => exact ⟨_, rfl⟩
  | some f => exact h f (List.mem_of_getElem? hk)
theorem Lits.nil : Lits [] := fun _ h => by cases h
theorem Lits.cons (u : Value) {Ds : List Fact} (h : Lits Ds) : Lits (.lit u :: Ds) := fun f hf => by
  rcases List.mem_cons.1 hf with rfl | hf
  · exact ⟨u, rfl⟩
  · exact h f hf
theorem Lits.holds {Ds : List Fact} (h : Lits Ds) {k : Nat} {v : Value} {w w' : World} (hv : (factAt Ds k).holds v w) : (factAt Ds k).holds v w' := by
  obtain ⟨u, e⟩ := h.at k
  rw [e] at hv ⊢
  exact hv
theorem Lits.holdsAt {ops : Array Oper} {n : Nat} {Ds : List Fact} (h : Lits Ds) {k : Nat} {a : Act} {w w' : World} (hv : holdsAt ops Ds n k a w) : Go.Proofs.YtgihaakgadmidaaGreat.holdsAt ops Ds n k a w' := by
  unfold Go.Proofs.YtgihaakgadmidaaGreat.holdsAt at hv ⊢
  cases hd : dstAt ops n k with
  | none => rw [hd] at hv; obtain ⟨v, hv⟩ := hv; exact ⟨v, h.holds hv⟩
  | some t => rw [hd] at hv; exact h.holds hv

section
variable (P : Program) (ops : Array Oper) (n : Nat) (A : List (List Nat)) (S : (Nat → Bool) → World → Prop) (Ds : List Fact)
/-- What is to be shown of operation i, in the frame of the walk in the text's order. -/
def StOb (i : Nat) (o : Oper) (c : Act) : Prop :=
  ∀ (l : Nat → Bool) (w : World), S l w → l i = false → (∀ k ∈ A.getD i [], l k = true) → ∀ K : Act → World → Prop, (∀ v w', (factAt Ds i).holds v w' → S (done l i) w' → K (c.put o.dst v) w') →
    if Region.wanted o (yielded ops c.tmps) = true then Oper.wp P o c w K (fun _ _ _ => False) else K (c.put o.dst undef) w
/-- The walk in the text's order. -/
def StSeq (fin : Act → Prop) : Nat → List Oper → Act → Prop
  | _, [], c => fin c
  | i, o :: r, c => StOb P ops A S Ds i o c ∧ StSeq fin (i + 1) r (c.put o.dst ((factAt Ds i).pickOr undef))
end

section
variable {P : Program} {ops : Array Oper} {n : Nat} {A : List (List Nat)} {S : (Nat → Bool) → World → Prop} {Ds : List Fact}
theorem Lits.pick (h : Lits Ds) (k : Nat) (u v : Value) : (factAt Ds k).pickOr u = (factAt Ds k).pickOr v := by
  obtain ⟨x, e⟩ := h.at k
  rw [e]; rfl
theorem stSeq_at (hL : Lits Ds) {fin : Act → Prop} (a : Act) : ∀ (l : List Oper) (i : Nat) (c : Act), StSeq P ops A S Ds fin i l c →
    (∀ (m : Nat) (o : Oper), l[m]? = some o → StOb P ops A S Ds (i + m) o (mixed Ds a i (l.take m) c)) ∧ fin (mixed Ds a i l c)
  | [], i, c, h => ⟨fun m o ho => by simp at ho, h⟩
  | o :: r, i, c, h => by
    obtain ⟨h1, h2⟩ := h
    rw [hL.pick i undef (match o.dst with | some d => a.tmps.getD d undef | none => undef)] at h2
    obtain ⟨h4, h5⟩ := stSeq_at hL a r (i + 1) _ h2
    refine ⟨fun m o' ho => ?_, h5⟩
    cases m with
    | zero =>
      have : o = o' := by simpa using ho
      subst this
      exact h1
    | succ m =>
      have := h4 m o' (by simpa using ho)
      rw [Nat.add_assoc, Nat.add_comm 1 m] at this
      exact this

/-- Ahead of an operation: what is known of the frame and the world. -/
structure StInv (ops : Array Oper) (n : Nat) (A : List (List Nat)) (S : (Nat → Bool) → World → Prop) (Ds : List Fact) (a0 : Act) (listed : Array Bool) (a : Act) (w : World) : Prop where
  s : S (fun k => listed.getD k false) w
  defers : a.defers = a0.defers
  size : a.tmps.size = a0.tmps.size
  rest : ∀ t, (∀ k, dstAt ops n k ≠ some t) → a.tmps.getD t undef = a0.tmps.getD t undef
  full : listed.size = ops.size
  early : ∀ k, listed.getD k false = true → k < n
  known : ∀ k, listed.getD k false = true → holdsAt ops Ds n k a w
  closed : ∀ k, listed.getD k false = true → ∀ j ∈ A.getD k [], listed.getD j false = true
/-- The frames agree wherever an operation looks. -/
theorem st_agree {a0 a : Act} {w : World} {listed : Array Bool} (hA : growOK ops a0.tmps.size n A = true) (I : StInv ops n A S Ds a0 listed a w) {i : Nat} {o : Oper} (ho : ops[i]? = some o) (hin : i < n)
    (hl : ∀ k ∈ A.getD i [], listed.getD k false = true) {t : Tmp} (ht : t ∈ o.looksAt ops) : (mixed Ds a 0 (ops.toList.take i) a0).tmps.getD t undef = a.tmps.getD t undef := by
  have G := growOK_at hA ho hin
  by_cases hk : ∃ k, dstAt ops n k = some t
  · obtain ⟨k, hk⟩ := hk
    have hkA := G.looks t ht k hk
    rw [mixed_at a hA rfl hk (G.anc k hkA).1 (Nat.le_of_lt hin)]
    have hh := I.known k (hl k hkA)
    unfold holdsAt at hh
    rw [hk] at hh
    cases hf : factAt Ds k with
    | lit u => rw [hf] at hh; exact hh.symm
    | prop p hp => rfl
    | fresh p hp => rfl
  · have hn : ∀ k, dstAt ops n k ≠ some t := fun k h => hk ⟨k, h⟩
    rw [mixed_other a t _ _ _ (fun o' ho' hd' => by
      obtain ⟨j, hj⟩ := List.getElem?_of_mem ho'
      obtain ⟨hj', hji⟩ := take_at hj
      exact hn j (by rw [dstAt_of hj' (by omega), hd'])), I.rest t hn]

/-- One operation, in whatever frame agrees with the walk's. -/
theorem st_step {l : Nat → Bool} {i : Nat} {o : Oper} {c a : Act} {w : World} {K : Act → World → Prop} {Q : Exit → Act → World → Prop} (ho : ops[i]? = some o) (hsel : ∀ cs b, o.op ≠ .select cs b)
    (hs : c.tmps.size = a.tmps.size) (hag : ∀ t ∈ o.looksAt ops, c.tmps.getD t undef = a.tmps.getD t undef) (hx : ∀ d, o.dst = some d → d < c.tmps.size)
    (hob : StOb P ops A S Ds i o c) (hS : S l w) (hli : l i = false) (hk : ∀ k ∈ A.getD i [], l k = true)
    (hK : ∀ v w', (factAt Ds i).holds v w' → S (done l i) w' → K (a.put o.dst v) w') : wpOp P ops Q i K a w := by
  have h := hob l w hS hli hk (fun a' w' => ∃ v, a' = c.put o.dst v ∧ (factAt Ds i).holds v w' ∧ S (done l i) w') (fun v w' h1 h2 => ⟨v, rfl, h1, h2⟩)
  rw [grow_wanted hs hag] at h
  have key : ∀ v w', (∃ v', c.put o.dst v = c.put o.dst v' ∧ (factAt Ds i).holds v' w' ∧ S (done l i) w') → K (a.put o.dst v) w' := by
    rintro v w' ⟨v', e, h1, h2⟩
    rw [put_inj hx e a]
    exact hK v' w' h1 h2
  unfold wpOp
  rw [ho]
  show if Region.wanted o (yielded ops a.tmps) = true then _ else _
  split
  · rename_i hw
    rw [if_pos hw] at h
    left
    unfold Oper.wp at h ⊢
    rw [grow_exec hsel hag] at h
    generalize (execOp a.eval o).run P w = r at h ⊢
    cases r with
    | ok n w' =>
      cases n <;> simp only [Oper.upon] at h ⊢
      case value v => exact key v w' h
      case skip => exact key undef w' h
      case defer d =>
        obtain ⟨v, e, _⟩ := h
        exfalso
        have e1 := congrArg (fun x => x.defers.length) e
        cases hd : o.dst <;> simp [Act.put, hd] at e1
      case enter f args =>
        refine Calls.mono h fun e w'' he => ?_
        cases e with
        | returned v => exact key v w'' he
        | panicked ch => exact he.elim
        | outgrown => obtain ⟨_, _, h⟩ := he; exact h.elim
      case row row args => exact Rows.mono h fun v w'' he => key v w'' he
    | halt x w' =>
      cases x <;> simp only [Oper.upon] at h ⊢
  · rename_i hw
    rw [if_neg hw] at h
    exact key undef w h


theorem StSeq.mono {fin fin' : Act → Prop} (h : ∀ c, fin c → fin' c) : ∀ (l : List Oper) (i : Nat) (c : Act), StSeq P ops A S Ds fin i l c → StSeq P ops A S Ds fin' i l c
  | [], _, c, hs => h c hs
  | _ :: r, _, _, hs => ⟨hs.1, StSeq.mono h r _ _ hs.2⟩
theorem st_any (hL : Lits Ds) {a0 : Act} {Q : Exit → Act → World → Prop} (hA : growOK ops a0.tmps.size n A = true)
    (hseq : StSeq P ops A S Ds (fun c => ∀ w, S (fun k => (listedTo n ops.size).getD k false) w → wpAny P .any ops Q (ops.size - n) (listedTo n ops.size) c w) 0 (ops.toList.take n) a0) :
    ∀ (fuel : Nat) (listed : Array Bool) (a : Act) (w : World), StInv ops n A S Ds a0 listed a w → listed.toList.count false = fuel → wpAny P .any ops Q fuel listed a w := by
  have hsel := growOK_sel hA
  have hle := growOK_le hA
  -- all are listed: the walk's own end
  have hend : ∀ (fuel : Nat) (listed : Array Bool) (a : Act) (w : World), StInv ops n A S Ds a0 listed a w → listed.toList.count false = fuel → (∀ k, k < n → listed.getD k false = true) → wpAny P .any ops Q fuel listed a w := by
    intro fuel listed a w I hc hall
    have hfin := (stSeq_at hL a (ops.toList.take n) 0 a0 hseq).2
    have e : mixed Ds a 0 (ops.toList.take n) a0 = a := by
      have e1 := mixed_defers (Ds := Ds) a (ops.toList.take n) 0 a0
      have e2 := mixed_size (Ds := Ds) a (ops.toList.take n) 0 a0
      have e3 : (mixed Ds a 0 (ops.toList.take n) a0).tmps = a.tmps := by
        apply Array.ext
        · rw [e2, I.size]
        · intro t h1 h2
          have hg : (mixed Ds a 0 (ops.toList.take n) a0).tmps.getD t undef = a.tmps.getD t undef := by
            by_cases hk : ∃ k, dstAt ops n k = some t
            · obtain ⟨k, hk⟩ := hk
              have hkn := dstAt_lt hk
              rw [mixed_at a hA rfl hk hkn (Nat.le_refl _)]
              have hh := I.known k (hall k hkn)
              unfold holdsAt at hh
              rw [hk] at hh
              cases hf : factAt Ds k with
              | lit u => rw [hf] at hh; exact hh.symm
              | prop p hp => rfl
              | fresh p hp => rfl
            · have hn : ∀ k, dstAt ops n k ≠ some t := fun k h => hk ⟨k, h⟩
              rw [mixed_other a t _ _ _ (fun o' ho' hd' => by
                obtain ⟨j, hj⟩ := List.getElem?_of_mem ho'
                obtain ⟨hj', hji⟩ := take_at hj
                exact hn j (by rw [dstAt_of hj' hji, hd'])), I.rest t hn]
          simpa [h1, h2] using hg
      generalize mixed Ds a 0 (ops.toList.take n) a0 = m at *
      obtain ⟨mt, md⟩ := m
      obtain ⟨at_, ad⟩ := a
      simp only at e1 e3
      rw [e3, e1, ← I.defers]
    rw [e] at hfin
    have hl : listed = listedTo n ops.size := by
      apply Array.ext
      · rw [I.full]; simp [listedTo]; omega
      · intro k h1 h2
        by_cases hkn : k < n
        · have := hall k hkn
          simp only [Array.getD_eq_getD_getElem?, Array.getElem?_eq_getElem h1, Option.getD_some] at this
          rw [this]
          simp [listedTo, hkn]
        · have : ¬ listed.getD k false = true := fun h => hkn (I.early k h)
          simp only [Array.getD_eq_getD_getElem?, Array.getElem?_eq_getElem h1, Option.getD_some] at this
          have h3 : listed[k] = false := by simpa using this
          rw [h3]
          simp [listedTo, List.getElem_append, hkn]
    have hf : fuel = ops.size - n := by
      rw [← hc, hl]
      simp [listedTo, List.count_append, List.count_replicate]
    rw [hf, hl]
    exact hfin w (hl ▸ I.s)
  intro fuel
  induction fuel with
  | zero =>
    intro listed a w I hc
    refine hend 0 listed a w I hc fun k hk => ?_
    have hk' : k < listed.toList.length := by simp only [Array.length_toList]; rw [I.full]; omega
    have : listed.toList[k] ≠ false := fun h => List.count_eq_zero.1 hc (h ▸ List.getElem_mem hk')
    have h2 : k < listed.size := by simpa using hk'
    simpa [h2] using this
  | succ fuel ih =>
    intro listed a w I hc
    by_cases hall : ∀ k, k < n → listed.getD k false = true
    · exact hend (fuel + 1) listed a w I hc hall
    -- one of the first n is not listed: the least of these may come up, and none behind them may
    have hlt : ∀ i ∈ Region.ready .any ops listed, i < n := by
      intro i hi
      obtain ⟨h1, o, ho, h2⟩ := mem_ready.1 hi
      rcases Nat.lt_or_ge i n with h | h
      · exact h
      · exfalso
        refine hall fun k hk => ?_
        obtain ⟨e, he, hb, rfl | hm⟩ := growOK_behind hA ho (by omega) k hk
        · exact h2 e he hb
        · exact I.closed e.on (h2 e he hb) k hm
    refine ⟨fun hr => ?_, fun i hi => ?_⟩
    · exfalso
      have hex : ∃ k, k < n ∧ listed.getD k false ≠ true := by
        rcases Classical.em (∃ k, k < n ∧ listed.getD k false ≠ true) with h | h
        · exact h
        · exact absurd (fun k hk => Classical.byContradiction fun hn => h ⟨k, hk, hn⟩) hall
      have hmin : ∀ m k, k ≤ m → k < n → listed.getD k false ≠ true → False := by
        intro m
        induction m with
        | zero =>
          intro k hkm hkn hkl
          obtain rfl : k = 0 := by omega
          have hk' : 0 < ops.size := by omega
          have hk2 : 0 < listed.size := by rw [I.full]; exact hk'
          have hmem : 0 ∈ Region.ready .any ops listed := by
            rw [mem_ready]
            refine ⟨by simpa [hk2] using hkl, ops[0], Array.getElem?_eq_getElem hk', fun e he hb => ?_⟩
            have := (growOK_at hA (Array.getElem?_eq_getElem hk') hkn).edge e he hb
            omega
          rw [hr] at hmem
          cases hmem
        | succ m ihm =>
          intro k hkm hkn hkl
          have hk' : k < ops.size := by omega
          have hk2 : k < listed.size := by rw [I.full]; exact hk'
          have hmem : k ∈ Region.ready .any ops listed := by
            rw [mem_ready]
            refine ⟨by simpa [hk2] using hkl, ops[k], Array.getElem?_eq_getElem hk', fun e he hb => ?_⟩
            have h3 := (growOK_at hA (Array.getElem?_eq_getElem hk') hkn).edge e he hb
            exact Classical.byContradiction fun hn => ihm e.on (by omega) (by omega) hn
          rw [hr] at hmem
          cases hmem
      obtain ⟨k, hkn, hkl⟩ := hex
      exact hmin k k (Nat.le_refl _) hkn hkl
    obtain ⟨h1, o, ho, h2⟩ := mem_ready.1 hi
    have hin := hlt i hi
    have G := growOK_at hA ho hin
    have hio : i < ops.size := (Array.getElem?_eq_some_iff.1 ho).1
    have hil : i < listed.size := by rw [I.full]; exact hio
    have hanc : ∀ k ∈ A.getD i [], listed.getD k false = true := by
      intro k hk
      obtain ⟨_, e, he, hb, rfl | hm⟩ := G.anc k hk
      · exact h2 e he hb
      · exact I.closed e.on (h2 e he hb) k hm
    have hsz := mixed_size (Ds := Ds) a (ops.toList.take i) 0 a0
    have hob := (stSeq_at hL a (ops.toList.take n) 0 a0 hseq).1 i o (by rw [List.getElem?_take, if_pos hin]; simpa using ho)
    rw [Nat.zero_add, List.take_take, Nat.min_eq_left (Nat.le_of_lt hin)] at hob
    refine st_step (l := fun k => listed.getD k false) ho (fun cs b => Region.noSelect_spec hsel i o cs b ho) (by rw [hsz, I.size]) (fun t ht => st_agree hA I ho hin hanc ht) (fun d hd => by rw [hsz]; exact G.small d hd) hob I.s (by simpa [hil] using h1) hanc ?_
    · intro v w' hv hS
      -- a slot of another operation is as it was
      have hslot : ∀ k t, k ≠ i → dstAt ops n k = some t → (a.put o.dst v).tmps.getD t undef = a.tmps.getD t undef := fun k t hki hd => put_getD_ne _ _ _ _ (fun e => hki (G.apart t e k hd))
      have hhere : ∀ t, dstAt ops n i = some t → (a.put o.dst v).tmps.getD t undef = v := fun t hd => by
        rw [dstAt_of ho hin] at hd
        rw [hd]
        exact put_getD_same _ _ _ (by rw [I.size]; exact G.small t hd)
      have hdone : done (fun k => listed.getD k false) i = fun k => (listed.setIfInBounds i true).getD k false := by
        funext k
        unfold done
        by_cases hki : k = i
        · subst hki; rw [if_pos rfl]; simp [hil]
        · rw [if_neg hki, getD_set_ne false (Ne.symm hki)]
      rw [hdone] at hS
      refine ih _ _ _ ⟨hS, ?_, ?_, ?_, ?_, ?_, ?_, ?_⟩ ?_
      · cases hd : o.dst <;> simp [Act.put, I.defers]
      · cases hd : o.dst <;> simp [Act.put, I.size]
      · intro t ht
        rw [put_getD_ne _ _ _ _ (by rw [← dstAt_of (n := n) ho hin]; exact ht i)]
        exact I.rest t ht
      · simp [I.full]
      · intro k hk
        by_cases hki : k = i
        · omega
        · rw [getD_set_ne false (Ne.symm hki)] at hk
          exact I.early k hk
      · intro k hk
        by_cases hki : k = i
        · subst hki
          unfold holdsAt
          rw [dstAt_of ho hin]
          cases hd : o.dst with
          | none => exact ⟨v, hv⟩
          | some d =>
            show (factAt Ds k).holds ((a.put (some d) v).tmps.getD d undef) w'
            rw [put_getD_same _ _ _ (by rw [I.size]; exact G.small d hd)]
            exact hv
        · rw [getD_set_ne false (Ne.symm hki)] at hk
          have hh := I.known k hk
          unfold holdsAt at hh ⊢
          cases hd : dstAt ops n k with
          | none => rw [hd] at hh; obtain ⟨u, hu⟩ := hh; exact ⟨u, hL.holds hu⟩
          | some t =>
            rw [hd] at hh
            show (factAt Ds k).holds ((a.put o.dst v).tmps.getD t undef) w'
            rw [put_getD_ne _ _ _ _ (fun e => hki (G.apart t e k hd))]
            exact hL.holds hh
      · intro k hk j hj
        by_cases hki : k = i
        · subst hki; exact getD_set_true (hanc j hj)
        · rw [getD_set_ne false (Ne.symm hki)] at hk
          exact getD_set_true (I.closed k hk j hj)
      · have := count_set_lt hil h1
        omega


/-- .. all of it. -/
theorem wp_region_stage (S : (Nat → Bool) → World → Prop) (A : List (List Nat)) (Ds : List Fact) {id : Nat} {a : Act} {w : World} {Q : Exit → Act → World → Prop} {m : Nat} (hL : Lits Ds) (hm : P.follows .mixedOrders = true) (hz : a.tmps.size = m) (hA : growOK ops m ops.size A = true)
    (hS : S (fun _ => false) w.drew)
    (hseq : StSeq P ops A S Ds (fun c => ∀ l w, S l w → (∀ k, k < ops.size → l k = true) → Q .normal c w) 0 ops.toList a) : (Code.region id ops true).wp P Q a w := by
  have hno : ∀ k, ¬ (Array.replicate ops.size false).getD k false = true := fun k hk => by
    by_cases h : k < ops.size
    · simp [h] at hk
    · simp [h] at hk
  have hf : (fun k => (Array.replicate ops.size false).getD k false) = fun _ => false := by
    funext k
    have := hno k
    simpa using this
  have hseq' : StSeq P ops A S Ds (fun c => ∀ w, S (fun k => (listedTo ops.size ops.size).getD k false) w → wpAny P .any ops Q (ops.size - ops.size) (listedTo ops.size ops.size) c w) 0 (ops.toList.take ops.size) a := by
    rw [List.take_of_length_le (by simp)]
    refine StSeq.mono (fun c hc w hs => ?_) _ _ _ hseq
    refine wpAny_done ?_ (hc _ w hs (fun k hk => by simp [listedTo, hk])) _
    rw [List.eq_nil_iff_forall_not_mem]
    intro k hkr
    obtain ⟨h1, o, ho, _⟩ := mem_ready.1 hkr
    have hkl : k < ops.size := (Array.getElem?_eq_some_iff.1 ho).1
    simp [listedTo, hkl] at h1
  exact wp_region_any hm (st_any hL (hz ▸ hA) hseq' ops.size _ a _ ⟨by rw [hf]; exact hS, rfl, rfl, fun _ _ => rfl, by simp, fun k hk => absurd hk (hno k), fun k hk => absurd hk (hno k), fun k hk => absurd hk (hno k)⟩ (by simp))
theorem wp_stageL (l : List Oper) (S : (Nat → Bool) → World → Prop) (A : List (List Nat)) (Ds : List Fact) {id : Nat} {a : Act} {w : World} {Q : Exit → Act → World → Prop} {m : Nat} (hL : Lits Ds) (hm : P.follows .mixedOrders = true) (hz : a.tmps.size = m) (hA : growOK l.toArray m l.toArray.size A = true)
    (hS : S (fun _ => false) w.drew)
    (hseq : StSeq P l.toArray A S Ds (fun c => ∀ d w, S d w → (∀ k, k < l.toArray.size → d k = true) → Q .normal c w) 0 l a) : (Code.region id l.toArray true).wp P Q a w :=
  wp_region_stage S A Ds hL hm hz hA hS hseq

/-! ### the steps -/
variable {fin : Act → Prop} {i : Nat} {o : Oper} {r : List Oper} {c : Act}
/-- One that reads, and has a value that is known. -/
theorem st_lit {u : Value} (hf : factAt Ds i = .lit u) (hw : Region.wanted o (yielded ops c.tmps) = true) (hst : ∀ l w, S l w → S (done l i) w)
    (hrun : ∀ l w, S l w → (execOp c.eval o).run P w = .ok (.value u) w)
    {c' : Act} (hc : c.put o.dst u = c') (h : StSeq P ops A S Ds fin (i + 1) r c') : StSeq P ops A S Ds fin i (o :: r) c := by
  subst hc
  refine ⟨fun l w hS hi hk K hK => ?_, by rw [hf]; exact h⟩
  rw [if_pos hw]
  unfold Oper.wp
  rw [hrun l w hS]
  exact hK u w (by rw [hf]; rfl) (hst l w hS)
/-- One that writes. -/
theorem st_write {u : Value} (hf : factAt Ds i = .lit u) (hw : Region.wanted o (yielded ops c.tmps) = true)
    (hrun : ∀ l w, S l w → l i = false → (∀ k ∈ A.getD i [], l k = true) → ∃ n w', (execOp c.eval o).run P w = .ok n w' ∧ (n = .value u ∨ n = .skip ∧ u = undef) ∧ S (done l i) w')
    {c' : Act} (hc : c.put o.dst u = c') (h : StSeq P ops A S Ds fin (i + 1) r c') : StSeq P ops A S Ds fin i (o :: r) c := by
  subst hc
  refine ⟨fun l w hS hi hk K hK => ?_, by rw [hf]; exact h⟩
  rw [if_pos hw]
  obtain ⟨n, w', h1, h2, h3⟩ := hrun l w hS hi hk
  unfold Oper.wp
  rw [h1]
  rcases h2 with rfl | ⟨rfl, rfl⟩
  · exact hK u w' (by rw [hf]; rfl) h3
  · exact hK undef w' (by rw [hf]; rfl) h3
/-- A call that writes, its value known. -/
theorem st_call {f : FuncId} {ls : List Operand} {ts : Array TypeId} {fn : Func} {code : Code} {u : Value} (ho : o.op = .call { callee := .value (.func f), args := ⟨ls⟩, argTypes := ts })
    (hfn : P.funcs[f]? = some fn) (hname : (fn.name == "runtime.NumGoroutine") = false) (hb : fn.body = some code)
    (hf : factAt Ds i = .lit u) (hw : Region.wanted o (yielded ops c.tmps) = true)
    (hrun : ∀ l w, S l w → l i = false → (∀ k ∈ A.getD i [], l k = true) → Calls P f ⟨ls.map c.eval⟩ w (fun e w' => e = .returned u ∧ S (done l i) w'))
    {c' : Act} (hc : c.put o.dst u = c') (h : StSeq P ops A S Ds fin (i + 1) r c') : StSeq P ops A S Ds fin i (o :: r) c := by
  subst hc
  refine ⟨fun l w hS hi hk K hK => ?_, by rw [hf]; exact h⟩
  rw [if_pos hw]
  unfold Oper.wp
  rw [run_call ho rfl hfn hname hb]
  refine (hrun l w hS hi hk).mono ?_
  rintro e w' ⟨rfl, h2⟩
  exact hK u w' (by rw [hf]; rfl) h2
end

end Go.Proofs.YtgihaakgadmidaaGreat
