/-
  Regions that draw their order, walked once in the text's order: what an operation looks at, and others have made, is apart.
-/
import Derived.Test.YtgihaakgadmidaaGreatGrow
namespace Go.Proofs.YtgihaakgadmidaaGreat
open Go.RowKit

section
variable (P : Program) (ops : Array Oper) (n : Nat) (A : List (List Nat)) (S : World → Prop) (Ds : List Fact)
/-- What these have made is apart. -/
def ApartOn (ks : List Nat) (c : Act) : Prop := ∀ j ∈ ks, ∀ k ∈ ks, j ≠ k → (factAt Ds j).isFresh = true → (factAt Ds k).isFresh = true → ∀ t u, dstAt ops n j = some t → dstAt ops n k = some u → headOf (c.tmps.getD t undef) ≠ headOf (c.tmps.getD u undef)
/-- What is to be shown of operation i, in the frame of the walk in the text's order. -/
def ApOb (i : Nat) (o : Oper) (c : Act) : Prop :=
  ∀ (w : World), S w → (∀ k ∈ A.getD i [], holdsAt ops Ds n k c w) → ApartOn ops n Ds (A.getD i []) c → ∀ K : Act → World → Prop, (∀ v w', (factAt Ds i).holds v w' → ((factAt Ds i).isFresh = true → NewPtr w w' v) → S w' → Below w.heap.size w w' → K (c.put o.dst v) w') →
    if Region.wanted o (yielded ops c.tmps) = true then Oper.wp P o c w K (fun _ _ _ => False) else K (c.put o.dst undef) w

/-- The walk in the text's order. -/
def ApSeq (fin : Act → Prop) : Nat → List Oper → Act → Prop
  | _, [], c => fin c
  | i, o :: r, c => ApOb P ops n A S Ds i o c ∧ match factAt Ds i with
    | .lit u => ApSeq fin (i + 1) r (c.put o.dst u)
    | .prop _ _ => ∀ v, ApSeq fin (i + 1) r (c.put o.dst v)
    | .fresh _ _ => ∀ v, ApSeq fin (i + 1) r (c.put o.dst v)

end

section
variable {P : Program} {ops : Array Oper} {n : Nat} {A : List (List Nat)} {S : World → Prop} {Ds : List Fact}

theorem apSeq_at {fin : Act → Prop} (a : Act) : ∀ (l : List Oper) (i : Nat) (c : Act), ApSeq P ops n A S Ds fin i l c →
    (∀ (m : Nat) (o : Oper), l[m]? = some o → ApOb P ops n A S Ds (i + m) o (mixed Ds a i (l.take m) c)) ∧ fin (mixed Ds a i l c)
  | [], i, c, h => ⟨fun m o ho => by simp at ho, h⟩
  | o :: r, i, c, h => by
    obtain ⟨h1, h2⟩ := h
    have h3 : ApSeq P ops n A S Ds fin (i + 1) r (c.put o.dst ((factAt Ds i).pickOr (match o.dst with | some d => a.tmps.getD d undef | none => undef))) := by
      cases hf : factAt Ds i with
      | lit u => rw [hf] at h2; exact h2
      | prop p hp => rw [hf] at h2; exact h2 _
      | fresh p hp => rw [hf] at h2; exact h2 _
    obtain ⟨h4, h5⟩ := apSeq_at a r (i + 1) _ h3
    refine ⟨fun m o' ho => ?_, h5⟩
    cases m with
    | zero =>
      have : o = o' := by simpa using ho
      subst this
      exact h1
    | succ m =>
      have := h4 m o' (by simpa using ho)
      rw [Nat.add_assoc, Nat.add_comm 1 m] at this
      exact this

/-- One operation, in whatever frame agrees with the walk's. -/
theorem ap_step {i : Nat} {o : Oper} {c a : Act} {w : World} {K : Act → World → Prop} {Q : Exit → Act → World → Prop} (ho : ops[i]? = some o) (hsel : ∀ cs b, o.op ≠ .select cs b)
    (hs : c.tmps.size = a.tmps.size) (hag : ∀ t ∈ o.looksAt ops, c.tmps.getD t undef = a.tmps.getD t undef) (hx : ∀ d, o.dst = some d → d < c.tmps.size)
    (hob : ApOb P ops n A S Ds i o c) (hS : S w) (hk : ∀ k ∈ A.getD i [], holdsAt ops Ds n k c w) (hap : ApartOn ops n Ds (A.getD i []) c)
    (hK : ∀ v w', (factAt Ds i).holds v w' → ((factAt Ds i).isFresh = true → NewPtr w w' v) → S w' → Below w.heap.size w w' → K (a.put o.dst v) w') : wpOp P ops Q i K a w := by
  have h := hob w hS hk hap (fun a' w' => ∃ v, a' = c.put o.dst v ∧ (factAt Ds i).holds v w' ∧ ((factAt Ds i).isFresh = true → NewPtr w w' v) ∧ S w' ∧ Below w.heap.size w w') (fun v w' h1 h0 h2 h3 => ⟨v, rfl, h1, h0, h2, h3⟩)
  rw [grow_wanted hs hag] at h
  have key : ∀ v w', (∃ v', c.put o.dst v = c.put o.dst v' ∧ (factAt Ds i).holds v' w' ∧ ((factAt Ds i).isFresh = true → NewPtr w w' v') ∧ S w' ∧ Below w.heap.size w w') → K (a.put o.dst v) w' := by
    rintro v w' ⟨v', e, h1, h0, h2, h3⟩
    rw [put_inj hx e a]
    exact hK v' w' h1 h0 h2 h3
  unfold wpOp
  rw [ho]
  show if Region.wanted o (yielded ops a.tmps) = true then _ else _
  split
  · rename_i hw
    rw [if_pos hw] at h
    left
    unfold Oper.wp at h ⊢
    rw [grow_exec hsel hag] at h
    generalize (execOp a.eval o).run P w = r at h ⊢
    cases r with
    | ok n w' =>
      cases n <;> simp only [Oper.upon] at h ⊢
      case value v => exact key v w' h
      case skip => exact key undef w' h
      case defer d =>
        obtain ⟨v, e, _⟩ := h
        exfalso
        have e1 := congrArg (fun x => x.defers.length) e
        cases hd : o.dst <;> simp [Act.put, hd] at e1
      case enter f args =>
        refine Calls.mono h fun e w'' he => ?_
        cases e with
        | returned v => exact key v w'' he
        | panicked ch => exact he.elim
        | outgrown => obtain ⟨_, _, h⟩ := he; exact h.elim
      case row row args => exact Rows.mono h fun v w'' he => key v w'' he
    | halt x w' =>
      cases x <;> simp only [Oper.upon] at h ⊢
  · rename_i hw
    rw [if_neg hw] at h
    exact key undef w h

theorem ap_any {a0 : Act} {Q : Exit → Act → World → Prop} (hA : growOK ops a0.tmps.size n A = true)
    (hseq : ApSeq P ops n A S Ds (fun c => ∀ w, S w → (∀ k, k < n → holdsAt ops Ds n k c w) → Apart ops n Ds c → wpAny P .any ops Q (ops.size - n) (listedTo n ops.size) c w) 0 (ops.toList.take n) a0) :
    ∀ (fuel : Nat) (listed : Array Bool) (a : Act) (w : World), GrowInv ops n A S Ds a0 listed a w → listed.toList.count false = fuel → wpAny P .any ops Q fuel listed a w := by
  have hsel := growOK_sel hA
  have hle := growOK_le hA
  -- all are listed: the walk's own end
  have hend : ∀ (fuel : Nat) (listed : Array Bool) (a : Act) (w : World), GrowInv ops n A S Ds a0 listed a w → listed.toList.count false = fuel → (∀ k, k < n → listed.getD k false = true) → wpAny P .any ops Q fuel listed a w := by
    intro fuel listed a w I hc hall
    have hfin := (apSeq_at a (ops.toList.take n) 0 a0 hseq).2
    have e : mixed Ds a 0 (ops.toList.take n) a0 = a := by
      have e1 := mixed_defers (Ds := Ds) a (ops.toList.take n) 0 a0
      have e2 := mixed_size (Ds := Ds) a (ops.toList.take n) 0 a0
      have e3 : (mixed Ds a 0 (ops.toList.take n) a0).tmps = a.tmps := by
        apply Array.ext
        · rw [e2, I.size]
        · intro t h1 h2
          have hg : (mixed Ds a 0 (ops.toList.take n) a0).tmps.getD t undef = a.tmps.getD t undef := by
            by_cases hk : ∃ k, dstAt ops n k = some t
            · obtain ⟨k, hk⟩ := hk
              have hkn := dstAt_lt hk
              rw [mixed_at a hA rfl hk hkn (Nat.le_refl _)]
              have hh := I.known k (hall k hkn)
              unfold holdsAt at hh
              rw [hk] at hh
              cases hf : factAt Ds k with
              | lit u => rw [hf] at hh; exact hh.symm
              | prop p hp => rfl
              | fresh p hp => rfl
            · have hn : ∀ k, dstAt ops n k ≠ some t := fun k h => hk ⟨k, h⟩
              rw [mixed_other a t _ _ _ (fun o' ho' hd' => by
                obtain ⟨j, hj⟩ := List.getElem?_of_mem ho'
                obtain ⟨hj', hji⟩ := take_at hj
                exact hn j (by rw [dstAt_of hj' hji, hd'])), I.rest t hn]
          simpa [h1, h2] using hg
      generalize mixed Ds a 0 (ops.toList.take n) a0 = m at *
      obtain ⟨mt, md⟩ := m
      obtain ⟨at_, ad⟩ := a
      simp only at e1 e3
      rw [e3, e1, ← I.defers]
    rw [e] at hfin
    have hl : listed = listedTo n ops.size := by
      apply Array.ext
      · rw [I.full]; simp [listedTo]; omega
      · intro k h1 h2
        by_cases hkn : k < n
        · have := hall k hkn
          simp only [Array.getD_eq_getD_getElem?, Array.getElem?_eq_getElem h1, Option.getD_some] at this
          rw [this]
          simp [listedTo, hkn]
        · have : ¬ listed.getD k false = true := fun h => hkn (I.early k h)
          simp only [Array.getD_eq_getD_getElem?, Array.getElem?_eq_getElem h1, Option.getD_some] at this
          have h3 : listed[k] = false := by simpa using this
          rw [h3]
          simp [listedTo, List.getElem_append, hkn]
    have hf : fuel = ops.size - n := by
      rw [← hc, hl]
      simp [listedTo, List.count_append, List.count_replicate]
    rw [hf, hl]
    exact hfin w I.s (fun k hk => I.known k (hall k hk)) (fun j k hj hk hne => I.distinct j k hne (hall j hj) (hall k hk))
  intro fuel
  induction fuel with
  | zero =>
    intro listed a w I hc
    refine hend 0 listed a w I hc fun k hk => ?_
    have hk' : k < listed.toList.length := by simp only [Array.length_toList]; rw [I.full]; omega
    have : listed.toList[k] ≠ false := fun h => List.count_eq_zero.1 hc (h ▸ List.getElem_mem hk')
    have h2 : k < listed.size := by simpa using hk'
    simpa [h2] using this
  | succ fuel ih =>
    intro listed a w I hc
    by_cases hall : ∀ k, k < n → listed.getD k false = true
    · exact hend (fuel + 1) listed a w I hc hall
    -- one of the first n is not listed: the least of these may come up, and none behind them may
    have hlt : ∀ i ∈ Region.ready .any ops listed, i < n := by
      intro i hi
      obtain ⟨h1, o, ho, h2⟩ := mem_ready.1 hi
      rcases Nat.lt_or_ge i n with h | h
      · exact h
      · exfalso
        refine hall fun k hk => ?_
        obtain ⟨e, he, hb, rfl | hm⟩ := growOK_behind hA ho (by omega) k hk
        · exact h2 e he hb
        · exact I.closed e.on (h2 e he hb) k hm
    refine ⟨fun hr => ?_, fun i hi => ?_⟩
    · exfalso
      have hex : ∃ k, k < n ∧ listed.getD k false ≠ true := by
        rcases Classical.em (∃ k, k < n ∧ listed.getD k false ≠ true) with h | h
        · exact h
        · exact absurd (fun k hk => Classical.byContradiction fun hn => h ⟨k, hk, hn⟩) hall
      have hmin : ∀ m k, k ≤ m → k < n → listed.getD k false ≠ true → False := by
        intro m
        induction m with
        | zero =>
          intro k hkm hkn hkl
          obtain rfl : k = 0 := by omega
          have hk' : 0 < ops.size := by omega
          have hk2 : 0 < listed.size := by rw [I.full]; exact hk'
          have hmem : 0 ∈ Region.ready .any ops listed := by
            rw [mem_ready]
            refine ⟨by simpa [hk2] using hkl, ops[0], Array.getElem?_eq_getElem hk', fun e he hb => ?_⟩
            have := (growOK_at hA (Array.getElem?_eq_getElem hk') hkn).edge e he hb
            omega
          rw [hr] at hmem
          cases hmem
        | succ m ihm =>
          intro k hkm hkn hkl
          have hk' : k < ops.size := by omega
          have hk2 : k < listed.size := by rw [I.full]; exact hk'
          have hmem : k ∈ Region.ready .any ops listed := by
            rw [mem_ready]
            refine ⟨by simpa [hk2] using hkl, ops[k], Array.getElem?_eq_getElem hk', fun e he hb => ?_⟩
            have h3 := (growOK_at hA (Array.getElem?_eq_getElem hk') hkn).edge e he hb
            exact Classical.byContradiction fun hn => ihm e.on (by omega) (by omega) hn
          rw [hr] at hmem
          cases hmem
      obtain ⟨k, hkn, hkl⟩ := hex
      exact hmin k k (Nat.le_refl _) hkn hkl
    obtain ⟨h1, o, ho, h2⟩ := mem_ready.1 hi
    have hin := hlt i hi
    have G := growOK_at hA ho hin
    have hio : i < ops.size := (Array.getElem?_eq_some_iff.1 ho).1
    have hil : i < listed.size := by rw [I.full]; exact hio
    have hanc : ∀ k ∈ A.getD i [], listed.getD k false = true := by
      intro k hk
      obtain ⟨_, e, he, hb, rfl | hm⟩ := G.anc k hk
      · exact h2 e he hb
      · exact I.closed e.on (h2 e he hb) k hm
    have hsz := mixed_size (Ds := Ds) a (ops.toList.take i) 0 a0
    have hob := (apSeq_at a (ops.toList.take n) 0 a0 hseq).1 i o (by rw [List.getElem?_take, if_pos hin]; simpa using ho)
    rw [Nat.zero_add, List.take_take, Nat.min_eq_left (Nat.le_of_lt hin)] at hob
    refine ap_step ho (fun cs b => Region.noSelect_spec hsel i o cs b ho) (by rw [hsz, I.size]) (fun t ht => grow_agree hA I ho hin hanc ht) (fun d hd => by rw [hsz]; exact G.small d hd) hob I.s ?_ ?_ ?_
    · intro k hk
      have hh := I.known k (hanc k hk)
      have hki := (G.anc k hk).1
      unfold holdsAt at hh ⊢
      cases hd : dstAt ops n k with
      | none => rw [hd] at hh; exact hh
      | some t =>
        rw [hd] at hh
        show (factAt Ds k).holds ((mixed Ds a 0 (ops.toList.take i) a0).tmps.getD t undef) w
        rw [mixed_at a hA rfl hd hki (Nat.le_of_lt hin)]
        cases hf : factAt Ds k with
        | lit u => rfl
        | prop p hp => rw [hf] at hh; exact hh
        | fresh p hp => rw [hf] at hh; exact hh
    · intro j hj k hk hne hfj hfk t u hdj hdk
      have hjl := hanc j hj
      have hkl := hanc k hk
      rw [mixed_at a hA rfl hdj (G.anc j hj).1 (Nat.le_of_lt hin), mixed_at a hA rfl hdk (G.anc k hk).1 (Nat.le_of_lt hin)]
      cases hf : factAt Ds j with
      | lit x => rw [hf] at hfj; cases hfj
      | prop p hp => rw [hf] at hfj; cases hfj
      | fresh p hp =>
        cases hf' : factAt Ds k with
        | lit x => rw [hf'] at hfk; cases hfk
        | prop p hp => rw [hf'] at hfk; cases hfk
        | fresh p' hp' => exact I.distinct j k hne hjl hkl hfj hfk t u hdj hdk
    · intro v w' hv hnew hS hb
      -- a slot of another operation is as it was
      have hslot : ∀ k t, k ≠ i → dstAt ops n k = some t → (a.put o.dst v).tmps.getD t undef = a.tmps.getD t undef := fun k t hki hd => put_getD_ne _ _ _ _ (fun e => hki (G.apart t e k hd))
      have hhere : ∀ t, dstAt ops n i = some t → (a.put o.dst v).tmps.getD t undef = v := fun t hd => by
        rw [dstAt_of ho hin] at hd
        rw [hd]
        exact put_getD_same _ _ _ (by rw [I.size]; exact G.small t hd)
      refine ih _ _ _ ⟨hS, ?_, ?_, ?_, ?_, ?_, ?_, ?_, ?_, ?_⟩ ?_
      · cases hd : o.dst <;> simp [Act.put, I.defers]
      · cases hd : o.dst <;> simp [Act.put, I.size]
      · intro t ht
        rw [put_getD_ne _ _ _ _ (by rw [← dstAt_of (n := n) ho hin]; exact ht i)]
        exact I.rest t ht
      · simp [I.full]
      · intro k hk
        by_cases hki : k = i
        · omega
        · rw [getD_set_ne false (Ne.symm hki)] at hk
          exact I.early k hk
      · intro k hk
        by_cases hki : k = i
        · subst hki
          unfold holdsAt
          rw [dstAt_of ho hin]
          cases hd : o.dst with
          | none => exact ⟨v, hv⟩
          | some d =>
            show (factAt Ds k).holds ((a.put (some d) v).tmps.getD d undef) w'
            rw [put_getD_same _ _ _ (by rw [I.size]; exact G.small d hd)]
            exact hv
        · rw [getD_set_ne false (Ne.symm hki)] at hk
          have hh := I.known k hk
          unfold holdsAt at hh ⊢
          cases hd : dstAt ops n k with
          | none => rw [hd] at hh; obtain ⟨u, hu⟩ := hh; exact ⟨u, Fact.grow hu hb⟩
          | some t =>
            rw [hd] at hh
            show (factAt Ds k).holds ((a.put o.dst v).tmps.getD t undef) w'
            rw [put_getD_ne _ _ _ _ (fun e => hki (G.apart t e k hd))]
            exact Fact.grow hh hb
      · intro k hk j hj
        by_cases hki : k = i
        · subst hki; exact getD_set_true (hanc j hj)
        · rw [getD_set_ne false (Ne.symm hki)] at hk
          exact getD_set_true (I.closed k hk j hj)
      · intro k hk hfr t hd
        by_cases hki : k = i
        · subst hki
          obtain ⟨b, hb1, _, hb3⟩ := hnew hfr
          exact ⟨b, by rw [hhere t hd, hb1], hb3⟩
        · rw [getD_set_ne false (Ne.symm hki)] at hk
          obtain ⟨b, hb1, hb2⟩ := I.made k hk hfr t hd
          exact ⟨b, by rw [hslot k t hki hd, hb1], Nat.lt_of_lt_of_le hb2 hb.size⟩
      · intro j k hne hj hk hfj hfk t u hdj hdk
        by_cases hji : j = i
        · have hki : k ≠ i := fun e => hne (hji.trans e.symm)
          subst hji
          rw [getD_set_ne false (Ne.symm hki)] at hk
          obtain ⟨b, hb1, hb2, _⟩ := hnew hfj
          obtain ⟨b', hb1', hb2'⟩ := I.made k hk hfk u hdk
          rw [hhere t hdj, hslot k u hki hdk, hb1, hb1']
          intro e
          injection e with e
          omega
        · rw [getD_set_ne false (Ne.symm hji)] at hj
          by_cases hki : k = i
          · subst hki
            obtain ⟨b, hb1, hb2, _⟩ := hnew hfk
            obtain ⟨b', hb1', hb2'⟩ := I.made j hj hfj t hdj
            rw [hhere u hdk, hslot j t hji hdj, hb1, hb1']
            intro e
            injection e with e
            omega
          · rw [getD_set_ne false (Ne.symm hki)] at hk
            rw [hslot j t hji hdj, hslot k u hki hdk]
            exact I.distinct j k hne hj hk hfj hfk t u hdj hdk
      · have := count_set_lt hil h1
        omega

/-- A region that draws its order, walked once in the text's order: its first n operations; what comes behind these is still to come. -/
theorem wp_region_ap (n : Nat) (S : World → Prop) (A : List (List Nat)) (Ds : List Fact) {id : Nat} {a : Act} {w : World} {Q : Exit → Act → World → Prop} {m : Nat} (hm : P.follows .mixedOrders = true) (hz : a.tmps.size = m) (hA : growOK ops m n A = true)
    (hS : S w.drew)
    (hseq : ApSeq P ops n A S Ds (fun c => ∀ w, S w → (∀ k, k < n → holdsAt ops Ds n k c w) → Apart ops n Ds c → wpAny P .any ops Q (ops.size - n) (listedTo n ops.size) c w) 0 (ops.toList.take n) a) : (Code.region id ops true).wp P Q a w := by
  have hno : ∀ k, ¬ (Array.replicate ops.size false).getD k false = true := fun k hk => by
    by_cases h : k < ops.size
    · simp [h] at hk
    · simp [h] at hk
  exact wp_region_any hm (ap_any (hz ▸ hA) hseq ops.size _ a _ ⟨hS, rfl, rfl, fun _ _ => rfl, by simp, fun k hk => absurd hk (hno k), fun k hk => absurd hk (hno k), fun k hk => absurd hk (hno k), fun k hk => absurd hk (hno k), fun j k _ hj => absurd hj (hno j)⟩ (by simp))

theorem wp_apL (l : List Oper) (n : Nat) (S : World → Prop) (A : List (List Nat)) (Ds : List Fact) {id : Nat} {a : Act} {w : World} {Q : Exit → Act → World → Prop} {m : Nat} (hm : P.follows .mixedOrders = true) (hz : a.tmps.size = m) (hA : growOK l.toArray m n A = true)
    (hS : S w.drew)
    (hseq : ApSeq P l.toArray n A S Ds (fun c => ∀ w, S w → (∀ k, k < n → holdsAt l.toArray Ds n k c w) → Apart l.toArray n Ds c → wpAny P .any l.toArray Q (l.toArray.size - n) (listedTo n l.toArray.size) c w) 0 (l.take n) a) : (Code.region id l.toArray true).wp P Q a w :=
  wp_region_ap n S A Ds hm hz hA hS hseq
variable {fin : Act → Prop} {i : Nat} {o : Oper} {r : List Oper} {c : Act}
/-- An operation that turns nothing, and whose value is known. -/
theorem ap_lit {u : Value} (hf : factAt Ds i = .lit u) (hw : Region.wanted o (yielded ops c.tmps) = true)
    (hrun : ∀ w, S w → (∀ k ∈ A.getD i [], holdsAt ops Ds n k c w) → (execOp c.eval o).run P w = .ok (.value u) w)
    {c' : Act} (hc : c.put o.dst u = c') (h : ApSeq P ops n A S Ds fin (i + 1) r c') : ApSeq P ops n A S Ds fin i (o :: r) c := by
  subst hc
  refine ⟨fun w hS H _ K hK => ?_, by rw [hf]; exact h⟩
  rw [if_pos hw]
  unfold Oper.wp
  rw [hrun w hS H]
  exact hK u w (by rw [hf]; exact rfl) (fun h => by rw [hf] at h; cases h) hS (Below.refl _ _)
/-- One whose value is told by others'. -/
theorem ap_prop {p : Value → World → Prop} {hp : ∀ v w w', p v w → Below w.heap.size w w' → p v w'} (hf : factAt Ds i = .prop p hp) (hw : Region.wanted o (yielded ops c.tmps) = true)
    (hrun : ∀ w, S w → (∀ k ∈ A.getD i [], holdsAt ops Ds n k c w) → ApartOn ops n Ds (A.getD i []) c → ∃ u, (execOp c.eval o).run P w = .ok (.value u) w ∧ p u w)
    {c' : Value → Act} (hc : ∀ v, c.put o.dst v = c' v) (h : ∀ v, ApSeq P ops n A S Ds fin (i + 1) r (c' v)) : ApSeq P ops n A S Ds fin i (o :: r) c := by
  obtain rfl : c' = fun v => c.put o.dst v := funext fun v => (hc v).symm
  refine ⟨fun w hS H G K hK => ?_, by rw [hf]; exact h⟩
  rw [if_pos hw]
  obtain ⟨u, h1, h2⟩ := hrun w hS H G
  unfold Oper.wp
  rw [h1]
  exact hK u w (by rw [hf]; exact h2) (fun h => by rw [hf] at h; cases h) hS (Below.refl _ _)

/-- One that makes a block, and tells where it lies. -/
theorem ap_fresh {p : Value → World → Prop} {hp : ∀ v w w', p v w → Below w.heap.size w w' → p v w'} (hS : Grows S) (hf : factAt Ds i = .fresh p hp) (hw : Region.wanted o (yielded ops c.tmps) = true)
    (hrun : ∀ w, S w → (∀ k ∈ A.getD i [], holdsAt ops Ds n k c w) → ∃ u w', (execOp c.eval o).run P w = .ok (.value u) w' ∧ p u w' ∧ NewPtr w w' u ∧ Below w.heap.size w w')
    {c' : Value → Act} (hc : ∀ v, c.put o.dst v = c' v) (h : ∀ v, ApSeq P ops n A S Ds fin (i + 1) r (c' v)) : ApSeq P ops n A S Ds fin i (o :: r) c := by
  obtain rfl : c' = fun v => c.put o.dst v := funext fun v => (hc v).symm
  refine ⟨fun w hs H _ K hK => ?_, by rw [hf]; exact h⟩
  rw [if_pos hw]
  obtain ⟨u, w', h1, h2, h4, h3⟩ := hrun w hs H
  unfold Oper.wp
  rw [h1]
  exact hK u w' (by rw [hf]; exact h2) (fun _ => h4) (hS w w' hs h3) h3

end

end Go.Proofs.YtgihaakgadmidaaGreat
