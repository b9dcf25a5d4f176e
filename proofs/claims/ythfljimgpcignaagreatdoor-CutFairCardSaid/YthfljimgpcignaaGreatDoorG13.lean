/-
  How many more go out of each vertex than come, edge by edge: plain mathematics, no program stands here.
-/
import Derived.Test.YthfljimgpcignaaGreatDoorFlB
namespace Go.Proofs.YthfljimgpcignaaGreatDoor

/-- .. by the first k edges. -/
def netTo (E : Edg) (f : List Int) (k v : Nat) : Int := sumN (fun i => (if (eL E i).1 = v then fL f i else 0) - (if (eL E i).2 = v then fL f i else 0)) k
theorem netTo_all (E : Edg) (f : List Int) (v : Nat) : netTo E f E.length v = netF E f v := rfl
theorem netTo_succ (E : Edg) (f : List Int) (k v : Nat) : netTo E f (k + 1) v = netTo E f k v + ((if (eL E k).1 = v then fL f k else 0) - (if (eL E k).2 = v then fL f k else 0)) := rfl
/-- Each of the first k edges bears what goes along it. -/
def okTo (E : Edg) (f : List Int) (k : Nat) : Prop := ∀ i, i < k → fL f i = 0 ∨ ((fL f i = 1 ∨ fL f i = -1) ∧ (eL E i).1 ≠ (eL E i).2)
section
variable {E : Edg} {f : List Int} {k N : Nat}
theorem netTo_bd (h : okTo E f k) (v : Nat) : -(k : Int) ≤ netTo E f k v ∧ netTo E f k v ≤ k := by
  induction k with
  | zero => exact ⟨Int.le_refl _, Int.le_refl _⟩
  | succ k ih =>
    have h1 := ih (fun i hi => h i (by omega))
    have h2 := h k (by omega)
    rw [netTo_succ]
    rcases h2 with h2 | ⟨h2 | h2, h3⟩ <;> rw [h2] <;> split <;> split <;> omega
/-- All of them, as a row. -/
def netRow (N : Nat) (E : Edg) (f : List Int) (k : Nat) : List Int := (List.range N).map (netTo E f k)
theorem netRow_len : (netRow N E f k).length = N := by simp [netRow]
theorem netRow_at {v : Nat} (h : v < (netRow N E f k).length) : (netRow N E f k)[v] = netTo E f k v := by simp [netRow]
theorem netRow_zero : netRow N E f 0 = List.replicate N 0 := by
  refine List.ext_getElem (by simp [netRow]) fun i h1 h2 => ?_
  rw [netRow_at]
  simp [netTo, sumN]
theorem netRow_still (h : fL f k = 0) : netRow N E f (k + 1) = netRow N E f k := by
  refine List.ext_getElem (by simp [netRow]) fun i h1 h2 => ?_
  rw [netRow_at, netRow_at, netTo_succ, h]
  simp
theorem netRow_forth {a b : Nat} (h : fL f k = 1) (he : eL E k = (a, b)) (hn : a ≠ b) : ((netRow N E f k).set a (netTo E f k a + 1)).set b (netTo E f k b - 1) = netRow N E f (k + 1) := by
  refine List.ext_getElem (by simp [netRow]) fun i h1 h2 => ?_
  rw [List.getElem_set, List.getElem_set, netRow_at, netRow_at, netTo_succ, h, he]
  by_cases hb : b = i
  · subst hb
    simp [hn]
    omega
  · by_cases ha : a = i
    · subst ha
      simp [hb]
    · simp [ha, hb]
theorem netRow_back {a b : Nat} (h : fL f k = -1) (he : eL E k = (a, b)) (hn : a ≠ b) : ((netRow N E f k).set b (netTo E f k b + 1)).set a (netTo E f k a - 1) = netRow N E f (k + 1) := by
  refine List.ext_getElem (by simp [netRow]) fun i h1 h2 => ?_
  rw [List.getElem_set, List.getElem_set, netRow_at, netRow_at, netTo_succ, h, he]
  by_cases hb : b = i
  · subst hb
    simp [hn]
  · by_cases ha : a = i
    · subst ha
      simp [hb]
      omega
    · simp [ha, hb]
theorem okTo.step (h : okTo E f k) (hk : fL f k = 0 ∨ ((fL f k = 1 ∨ fL f k = -1) ∧ (eL E k).1 ≠ (eL E k).2)) : okTo E f (k + 1) := fun i hi => by
  by_cases hlt : i < k
  · exact h i hlt
  · obtain rfl : i = k := by omega
    exact hk
/-- The sum over the marked ones of the first k vertices. -/
def sumTo (E : Edg) (f : List Int) (A : VSet) (k : Nat) : Int := sumN (fun v => if A v = true then netF E f v else 0) k
theorem sumTo_bd {A : VSet} (h : okTo E f E.length) (hE : E.length ≤ 16384) : ∀ k : Nat, -(16384 * (k : Int)) ≤ sumTo E f A k ∧ sumTo E f A k ≤ 16384 * k
  | 0 => ⟨by simp [sumTo, sumN], by simp [sumTo, sumN]⟩
  | k + 1 => by
    have h1 := sumTo_bd (A := A) h hE k
    have h2 := netTo_bd h k
    rw [netTo_all] at h2
    show -(16384 * ((k + 1 : Nat) : Int)) ≤ sumTo E f A k + (if A k = true then netF E f k else 0) ∧ sumTo E f A k + (if A k = true then netF E f k else 0) ≤ 16384 * ((k + 1 : Nat) : Int)
    split <;> omega
/-- Of the first k vertices none has more come than go that may not. -/
def evenTo (E : Edg) (f : List Int) (A B : VSet) (k : Nat) : Prop := ∀ v, v < k → A v = false → B v = false → netF E f v = 0
theorem isFlow_iff {A B : VSet} (hl : f.length = E.length) : IsFlow N E A B f ↔ okTo E f E.length ∧ evenTo E f A B N := by
  constructor
  · intro h
    refine ⟨fun i hi => ?_, h.even⟩
    by_cases hs : (eL E i).1 = (eL E i).2
    · exact Or.inl (h.self i hi hs)
    · rcases h.one i hi with h | h | h
      · exact Or.inr ⟨Or.inr h, hs⟩
      · exact Or.inl h
      · exact Or.inr ⟨Or.inl h, hs⟩
  · rintro ⟨h1, h2⟩
    exact ⟨hl, fun i hi => by rcases h1 i hi with h | ⟨h | h, _⟩ <;> omega, fun i hi hs => by
      rcases h1 i hi with h | ⟨_, h⟩
      · exact h
      · exact absurd hs h, h2⟩
end
end Go.Proofs.YthfljimgpcignaaGreatDoor

/-
  One more is sent: what turns, what stays: plain mathematics, no program stands here.
-/
namespace Go.Proofs.YthfljimgpcignaaGreatDoor

theorem fL_set {f : List Int} {i : Nat} (hi : i < f.length) (x : Int) (j : Nat) : fL (f.set i x) j = if j = i then x else fL f j := by
  unfold fL
  rw [List.getD_eq_getElem?_getD, List.getD_eq_getElem?_getD, List.getElem?_set]
  by_cases h : i = j
  · subst h
    simp [hi]
  · rw [if_neg h, if_neg (fun e => h e.symm)]
/-- What goes along an edge may, each edge for itself. -/
structure FlOk (E : Edg) (f : List Int) : Prop where
  len : f.length = E.length
  one : ∀ i, i < E.length → fL f i = -1 ∨ fL f i = 0 ∨ fL f i = 1
  self : ∀ i, i < E.length → (eL E i).1 = (eL E i).2 → fL f i = 0
/-- One more goes from v to one that is marked; only edges no nearer than v turn. -/
structure SendQ (N : Nat) (E : Edg) (B : VSet) (off : List Int) (v : Nat) (f f' : List Int) : Prop where
  ok : FlOk E f'
  net : ∃ d, d < N ∧ B d = true ∧ ∀ u, netF E f' u = netF E f u + (if u = v then 1 else 0) - (if u = d then 1 else 0)
  chg : ∀ i, i < E.length → fL f' i ≠ fL f i → oL off v ≤ oL off (eL E i).1 ∧ oL off v ≤ oL off (eL E i).2
section
variable {N : Nat} {E : Edg} {B : VSet} {off f f' : List Int} {v x : Nat}
theorem netF_set (hl : f.length = E.length) {i : Nat} (hi : i < E.length) (y : Int) (u : Nat) : netF E (f.set i y) u = netF E f u + ((if (eL E i).1 = u then y - fL f i else 0) - (if (eL E i).2 = u then y - fL f i else 0)) := by
  unfold netF
  rw [sumN_set (g := fun i => (if (eL E i).1 = u then fL f i else 0) - (if (eL E i).2 = u then fL f i else 0)) i hi (fun j hj hn => by rw [fL_set (by omega), if_neg hn])]
  rw [fL_set (by omega), if_pos rfl]
  congr 1
  split <;> split <;> omega
theorem SendQ.here (h : FlOk E f) (hv : v < N) (hB : B v = true) : SendQ N E B off v f f := ⟨h, ⟨v, hv, hB, fun u => by omega⟩, fun i _ hn => absurd rfl hn⟩
theorem SendQ.step {i : Nat} {y : Int} (h : SendQ N E B off x f f') (hf : FlOk E f) (hi : i < E.length) (hxy : alongE E i v = (x, y)) (hat : (eL E i).1 = v ∨ (eL E i).2 = v) (ho : oL off x = oL off v + 1) (hne : fL f i ≠ y) : fL f' i = fL f i ∧ SendQ N E B off v f (f'.set i (fL f' i + y)) := by
  have hvx : v ≠ x := fun e => by rw [e] at ho; omega
  have hsame : fL f' i = fL f i := Classical.byContradiction fun hn => by
    have := h.chg i hi hn
    rcases hat with e | e
    · rw [e] at this; omega
    · rw [e] at this; omega
  refine ⟨hsame, ?_⟩
  have hend : ((eL E i).1 = v ∧ (eL E i).2 = x ∧ y = 1) ∨ ((eL E i).1 = x ∧ (eL E i).2 = v ∧ y = -1) := by
    unfold alongE at hxy
    split at hxy
    · next e =>
      obtain ⟨e1, e2⟩ := Prod.mk.inj hxy
      exact Or.inl ⟨e.symm, e1, e2.symm⟩
    · next e =>
      obtain ⟨e1, e2⟩ := Prod.mk.inj hxy
      rcases hat with h | h
      · exact absurd h.symm e
      · exact Or.inr ⟨e1, h, e2.symm⟩
  have hl := h.ok.len
  have hone := hf.one i hi
  refine ⟨⟨by rw [List.length_set]; exact hl, fun j hj => ?_, fun j hj hs => ?_⟩, ?_, fun j hj hn => ?_⟩
  · rw [fL_set (by omega)]
    split
    · rw [hsame]
      rcases hend with ⟨-, -, rfl⟩ | ⟨-, -, rfl⟩ <;> omega
    · exact h.ok.one j hj
  · rw [fL_set (by omega)]
    split
    · next e =>
      subst e
      rcases hend with ⟨h1, h2, -⟩ | ⟨h1, h2, -⟩ <;> rw [h1, h2] at hs <;> omega
    · exact h.ok.self j hj hs
  · obtain ⟨d, hd, hB, hnet⟩ := h.net
    refine ⟨d, hd, hB, fun u => ?_⟩
    rw [netF_set hl hi, hnet u]
    rcases hend with ⟨h1, h2, rfl⟩ | ⟨h1, h2, rfl⟩ <;> rw [h1, h2]
    · by_cases hu : u = v
      · subst hu
        simp [hvx]
        omega
      · by_cases hx : u = x
        · subst hx
          simp [hvx, hu]
          omega
        · have a1 : ¬ v = u := fun e => hu e.symm
          have a2 : ¬ x = u := fun e => hx e.symm
          simp [hu, hx, a1, a2]
    · by_cases hu : u = v
      · subst hu
        simp [hvx]
        omega
      · by_cases hx : u = x
        · subst hx
          simp [hvx, hu]
          omega
        · have a1 : ¬ v = u := fun e => hu e.symm
          have a2 : ¬ x = u := fun e => hx e.symm
          simp [hu, hx, a1, a2]
  · by_cases e : j = i
    · subst e
      rcases hend with ⟨h1, h2, -⟩ | ⟨h1, h2, -⟩ <;> rw [h1, h2] <;> omega
    · rw [fL_set (by omega), if_neg e] at hn
      have := h.chg j hj hn
      omega
/-- From each vertex the first so many of its edges lead to none from which more get on. -/
def nL (nx : List Int) (u : Nat) : Int := nx.getD u 0
theorem nL_at {l : List Int} {v : Nat} (h : v < l.length) : nL l v = l[v] := by simp [nL, h]
theorem nL_set {l : List Int} {b : Nat} (hb : b < l.length) (c : Int) (v : Nat) : nL (l.set b c) v = if v = b then c else nL l v := by
  unfold nL
  rw [List.getD_eq_getElem?_getD, List.getD_eq_getElem?_getD, List.getElem?_set]
  by_cases h : b = v
  · subst h
    simp [hb]
  · rw [if_neg h, if_neg (fun e => h e.symm)]
def Dead (E : Edg) (B : VSet) (nx : List Int) (u : Nat) : Prop := nL nx u = (atL E u).length ∧ B u = false
structure NInv (N : Nat) (E : Edg) (nx : List Int) : Prop where
  len : nx.length = N
  bd : ∀ u, u < N → 0 ≤ nL nx u ∧ nL nx u ≤ (atL E u).length
def DInv (N : Nat) (E : Edg) (B : VSet) (off f nx : List Int) : Prop :=
  ∀ (u j i x : Nat) (y : Int), u < N → (j : Int) < nL nx u → (atL E u)[j]? = some (i : Int) → alongE E i u = (x, y) → oL off x = oL off u + 1 → fL f i ≠ y → Dead E B nx x
/-- Pointers only go on, and those of vertices nearer than v stay. -/
def NGrow (N : Nat) (off nx nx' : List Int) (o : Int) : Prop := (∀ u, u < N → nL nx u ≤ nL nx' u) ∧ ∀ u, oL off u < o → nL nx' u = nL nx u
theorem NGrow.refl {o : Int} (nx : List Int) : NGrow N off nx nx o := ⟨fun _ _ => Int.le_refl _, fun _ _ => rfl⟩
theorem NGrow.trans {o : Int} {a b c : List Int} (h : NGrow N off a b o) (k : NGrow N off b c o) : NGrow N off a c o := ⟨fun u hu => Int.le_trans (h.1 u hu) (k.1 u hu), fun u hu => (k.2 u hu).trans (h.2 u hu)⟩
theorem NGrow.mono {o o' : Int} {a b : List Int} (h : NGrow N off a b o) (ho : o' ≤ o) : NGrow N off a b o' := ⟨h.1, fun u hu => h.2 u (by omega)⟩
theorem Dead.grow {nx nx' : List Int} {u : Nat} (h : Dead E B nx u) (hu : u < N) (hn : NInv N E nx') (hg : ∀ u, u < N → nL nx u ≤ nL nx' u) : Dead E B nx' u := ⟨by
  have := hn.bd u hu
  have := hg u hu
  have := h.1
  omega, h.2⟩
/-- The pointer of v goes on by one: past an edge that leads to none from which more get on. -/
theorem next_step {nx : List Int} {j i : Nat} {y : Int} (hn : NInv N E nx) (hv : v < N) (hj : nL nx v = j) (hi : (atL E v)[j]? = some (i : Int)) (hxy : alongE E i v = (x, y)) (hd : DInv N E B off f nx) (hx : oL off x = oL off v + 1 → fL f i ≠ y → Dead E B nx x) :
    DInv N E B off f (nx.set v ((j : Int) + 1)) := by
  have hvl : v < nx.length := by rw [hn.len]; exact hv
  have hjl : j < (atL E v).length := (List.getElem?_eq_some_iff.1 hi).1
  intro u j' i' x' y' hu hj' hi' hxy' ho hne
  have key : Dead E B nx x' := by
    rw [nL_set hvl] at hj'
    by_cases huv : u = v
    · subst huv
      rw [if_pos rfl] at hj'
      by_cases hjj : j' < j
      · exact hd u j' i' x' y' hu (by omega) hi' hxy' ho hne
      · obtain rfl : j' = j := by omega
        rw [hi] at hi'
        injection hi' with hi'
        obtain rfl : i = i' := by omega
        rw [hxy] at hxy'
        obtain ⟨rfl, rfl⟩ := Prod.mk.inj hxy'
        exact hx ho hne
    · rw [if_neg huv] at hj'
      exact hd u j' i' x' y' hu hj' hi' hxy' ho hne
  refine ⟨?_, key.2⟩
  rw [nL_set hvl]
  split
  · next e =>
    have := key.1
    rw [e, hj] at this
    omega
  · exact key.1
theorem NInv.next {nx : List Int} {j : Nat} (hn : NInv N E nx) (hv : v < N) (hj : nL nx v = j) (hjl : j < (atL E v).length) : NInv N E (nx.set v ((j : Int) + 1)) := by
  have hvl : v < nx.length := by rw [hn.len]; exact hv
  refine ⟨by rw [List.length_set]; exact hn.len, fun u hu => ?_⟩
  rw [nL_set hvl]
  split
  · next e =>
    subst e
    omega
  · exact hn.bd u hu
theorem NGrow.next {nx : List Int} {j : Nat} (hn : NInv N E nx) (hv : v < N) (hj : nL nx v = j) : NGrow N off nx (nx.set v ((j : Int) + 1)) (oL off v) := by
  have hvl : v < nx.length := by rw [hn.len]; exact hv
  refine ⟨fun u hu => ?_, fun u hu => ?_⟩
  · rw [nL_set hvl]
    split
    · next e =>
      subst e
      omega
    · exact Int.le_refl _
  · rw [nL_set hvl, if_neg (fun e => by rw [e] at hu; omega)]
/-- Where nothing was sent from any that is marked, none of the others is reached. -/
theorem none_reached {A : VSet} {nx : List Int} (hl : LevQ N E f 1 A off) (hd : DInv N E B off f nx) (hs : ∀ v, v < N → A v = true → Dead E B nx v) : ∀ v, v < N → B v = true → ¬ Rch E f 1 A v := by
  have key : ∀ (k : Nat) (v : Nat), v < N → oL off v = k → Dead E B nx v := by
    intro k
    induction k with
    | zero => exact fun v hv ho => hs v hv (hl.zero v hv (by omega))
    | succ k ih =>
      intro v hv ho
      obtain ⟨u, hu, e, hr⟩ := hl.par v hv (by omega)
      have hdu := ih u hu (by omega)
      have huv : u ≠ v := fun e0 => by rw [e0] at e; omega
      obtain ⟨i, y, h1, h2, h3⟩ := along_room hr huv
      obtain ⟨j, hj, hji⟩ := List.mem_iff_getElem.1 h1
      exact hd u j i v y hu (by have := hdu.1; omega) (by rw [← hji]; exact List.getElem?_eq_getElem hj) h2 (by omega) (by simpa using h3)
  intro v hv hB hr
  have ho := (hl.rch v hv).2 hr
  rcases hl.sgn v hv with h | ⟨h, -⟩
  · exact ho h
  · have := (key (oL off v).toNat v hv (by omega)).2
    rw [hB] at this
    cases this
/-- The value, one more being sent from one set to the other one. -/
theorem val_send {A : VSet} (hAB : ∀ v, A v = true → B v = false) (h : IsFlow N E A B f) (hq : SendQ N E B off v f f') (hv : v < N) (hA : A v = true) : IsFlow N E A B f' ∧ valF N E A f' = valF N E A f + 1 := by
  obtain ⟨d, hd, hB, hnet⟩ := hq.net
  have hdA : A d = false := by
    cases e : A d
    · rfl
    · have := hAB d e
      rw [hB] at this
      cases this
  refine ⟨⟨hq.ok.len, hq.ok.one, hq.ok.self, fun u hu ha hb => ?_⟩, ?_⟩
  · rw [hnet u, h.even u hu ha hb, if_neg (fun e => by rw [e, hA] at ha; cases ha), if_neg (fun e => by rw [e, hB] at hb; cases hb)]
    omega
  · unfold valF
    rw [sumN_set (g := fun v => if A v = true then netF E f v else 0) v hv (fun u hu hn => by
      cases e : A u
      · simp
      · simp only [if_true]
        rw [hnet u, if_neg hn, if_neg (fun e2 => by rw [e2, hdA] at e; cases e)]
        omega)]
    rw [hA, if_pos rfl, if_pos rfl, hnet v, if_pos rfl, if_neg (fun e => by rw [e, hdA] at hA; cases hA)]
    omega
end
end Go.Proofs.YthfljimgpcignaaGreatDoor
