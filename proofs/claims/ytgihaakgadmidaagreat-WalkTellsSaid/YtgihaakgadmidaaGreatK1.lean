/-
  Least walks: plain mathematics, no program stands here. h a b is what it costs to go on from a to b.
-/
import Derived.Test.YtgihaakgadmidaaGreatA1
import Derived.Test.YtgihaakgadmidaaGreatF1
import Derived.Test.YtgihaakgadmidaaGreatE1
namespace Go.Proofs.YtgihaakgadmidaaGreat

theorem addC_held (a b : Int) : 0 ≤ addC a b ∧ addC a b ≤ 1152921504606846976 := ⟨addC_lo a b, addC_hi a b⟩
theorem hld_mono {a b : Int} (h : a ≤ b) : hld a ≤ hld b := by unfold hld; split <;> split <;> (try split) <;> (try split) <;> omega
theorem addC_mono {a a' b b' : Int} (h : a ≤ a') (k : b ≤ b') : addC a b ≤ addC a' b' := hld_mono (by have := hld_mono h; have := hld_mono k; omega)
/-- What a walk from s costs that ends at an arc. -/
inductive Att (h : Nat → Nat → Int) (N s : Nat) : Nat → Int → Prop
  | start : Att h N s s 0
  | step {a b : Nat} {x : Int} : Att h N s a x → b < N → Att h N s b (addC x (h a b))
/-- What a walk to t costs that begins at an arc. -/
inductive BAtt (h : Nat → Nat → Int) (N t : Nat) : Nat → Int → Prop
  | start : BAtt h N t t 0
  | step {a b : Nat} {x : Int} : BAtt h N t b x → a < N → BAtt h N t a (addC x (h a b))
section
variable {h h' : Nat → Nat → Int} {N s t a b m : Nat} {x y : Int}
theorem Att.held (k : Att h N s a x) : 0 ≤ x ∧ x ≤ 1152921504606846976 := by
  cases k with
  | start => omega
  | step _ _ => exact addC_held _ _
theorem BAtt.held (k : BAtt h N t a x) : 0 ≤ x ∧ x ≤ 1152921504606846976 := by
  cases k with
  | start => omega
  | step _ _ => exact addC_held _ _
theorem Att.lt (k : Att h N s a x) (hs : s < N) : a < N := by
  cases k with
  | start => exact hs
  | step _ hb => exact hb
theorem BAtt.lt (k : BAtt h N t a x) (ht : t < N) : a < N := by
  cases k with
  | start => exact ht
  | step _ ha => exact ha
/-- Two walks, one behind the other. -/
theorem Att.trans (k : Att h N s m x) (l : Att h N m t y) : Att h N s t (addC x y) := by
  induction l with
  | start =>
    have e : addC x 0 = x := by rw [addC_zero]; exact hld_in _ k.held.1 k.held.2
    rw [e]
    exact k
  | step _ hb ih =>
    rw [← addC_assoc]
    exact .step ih hb
theorem Att.one (hb : b < N) : Att h N a b (hld (h a b)) := by
  have e : addC 0 (h a b) = hld (h a b) := by rw [addC_comm, addC_zero]
  rw [← e]
  exact .step .start hb
theorem hld_addC (c d : Int) : addC (hld c) d = addC c d := by unfold addC; rw [hld_hld]
theorem BAtt.att (k : BAtt h N t a x) (ht : t < N) : Att h N a t x := by
  induction k with
  | start => exact .start
  | step k _ ih =>
    rw [addC_comm, ← hld_addC]
    exact (Att.one (k.lt ht)).trans ih
theorem BAtt.snoc (k : BAtt h N b a x) (hb : b < N) : BAtt h N t a (addC (hld (h b t)) x) := by
  induction k with
  | start =>
    have e : addC (hld (h b t)) 0 = addC 0 (h b t) := by rw [hld_addC, addC_comm]
    rw [e]
    exact .step .start hb
  | step _ ha ih =>
    rw [← addC_assoc]
    exact .step ih ha
/-- d tells of each arc the least walk from s. -/
structure FromD (h : Nat → Nat → Int) (N s : Nat) (d : Nat → Int) : Prop where
  hi : ∀ b, b < N → d b ≤ 1152921504606846976
  start : d s ≤ 0
  att : ∀ b, b < N → d b < 1152921504606846976 → Att h N s b (d b)
  closed : ∀ a b, a < N → b < N → d b ≤ addC (d a) (h a b)
/-- d tells of each arc the least walk to t. -/
structure ToD (h : Nat → Nat → Int) (N t : Nat) (d : Nat → Int) : Prop where
  hi : ∀ b, b < N → d b ≤ 1152921504606846976
  start : d t ≤ 0
  att : ∀ b, b < N → d b < 1152921504606846976 → BAtt h N t b (d b)
  closed : ∀ a b, a < N → b < N → d a ≤ addC (d b) (h a b)
variable {d e : Nat → Int}
theorem FromD.le (f : FromD h N s d) (hs : s < N) (k : Att h N s b x) : d b ≤ x := by
  induction k with
  | start => exact f.start
  | step k hb ih => exact Int.le_trans (f.closed _ _ (k.lt hs) hb) (addC_mono ih (Int.le_refl _))
theorem ToD.le (f : ToD h N t d) (ht : t < N) (k : BAtt h N t a x) : d a ≤ x := by
  induction k with
  | start => exact f.start
  | step k ha ih => exact Int.le_trans (f.closed _ _ ha (k.lt ht)) (addC_mono ih (Int.le_refl _))
/-- There is but one such answer. -/
theorem FromD.uniq (f : FromD h N s d) (g : FromD h N s e) (hs : s < N) (hb : b < N) : d b = e b := by
  have key : ∀ {d e : Nat → Int}, FromD h N s d → FromD h N s e → d b ≤ e b := by
    intro d e f g
    by_cases hl : e b < 1152921504606846976
    · exact f.le hs (g.att b hb hl)
    · have := f.hi b hb
      omega
  exact Int.le_antisymm (key f g) (key g f)
theorem ToD.uniq (f : ToD h N t d) (g : ToD h N t e) (ht : t < N) (hb : b < N) : d b = e b := by
  have key : ∀ {d e : Nat → Int}, ToD h N t d → ToD h N t e → d b ≤ e b := by
    intro d e f g
    by_cases hl : e b < 1152921504606846976
    · exact f.le ht (g.att b hb hl)
    · have := f.hi b hb
      omega
  exact Int.le_antisymm (key f g) (key g f)
theorem FromD.lo (f : FromD h N s d) (hb : b < N) : 0 ≤ d b := by
  by_cases hl : d b < 1152921504606846976
  · exact (f.att b hb hl).held.1
  · omega
theorem addC_infL (c : Int) : addC 1152921504606846976 c = 1152921504606846976 := by rw [addC_comm]; exact addC_inf c
end

end Go.Proofs.YtgihaakgadmidaaGreat

/-
  The least of what walks cost: plain mathematics of going through from one arc to another one by arcs within; no program stands here.
-/
namespace Go.Proofs.YtgihaakgadmidaaGreat

/-- b is the least that P says, or Inf. -/
structure LeastOf (P : Int → Prop) (b : Int) : Prop where
  hi : b ≤ 1152921504606846976
  att : b < 1152921504606846976 → P b
  le : ∀ x, P x → b ≤ x
theorem LeastOf.uniq {P : Int → Prop} {b c : Int} (h : LeastOf P b) (k : LeastOf P c) : b = c := by
  have key : ∀ {b c : Int}, LeastOf P b → LeastOf P c → b ≤ c := by
    intro b c h k
    by_cases hl : c < 1152921504606846976
    · exact h.le _ (k.att hl)
    · have := h.hi
      omega
  exact Int.le_antisymm (key h k) (key k h)
theorem LeastOf.lo {P : Int → Prop} {b : Int} (h : LeastOf P b) (hp : ∀ x, P x → 0 ≤ x) : 0 ≤ b := by
  by_cases hl : b < 1152921504606846976
  · exact hp _ (h.att hl)
  · omega
theorem FromD.least {h : Nat → Nat → Int} {N s b : Nat} {d : Nat → Int} (f : FromD h N s d) (hs : s < N) (hb : b < N) : LeastOf (Att h N s b) (d b) := ⟨f.hi b hb, f.att b hb, fun _ k => f.le hs k⟩
theorem ToD.least {h : Nat → Nat → Int} {N t b : Nat} {d : Nat → Int} (f : ToD h N t d) (ht : t < N) (hb : b < N) : LeastOf (BAtt h N t b) (d b) := ⟨f.hi b hb, f.att b hb, fun _ k => f.le ht k⟩
/-- What a row of arcs within costs, behind s, to its end. -/
inductive IAt (T : Nat → Nat → Int) (W : Nat → Int) (I : Nat → Bool) (N s : Nat) : Nat → Int → Prop
  | start {b : Nat} : b < N → I b = true → IAt T W I N s b (addC (T s b) (W b))
  | step {a b : Nat} {x : Int} : IAt T W I N s a x → b < N → I b = true → IAt T W I N s b (addC (addC x (T a b)) (W b))
/-- What going through from s to t costs. -/
inductive Ins (T : Nat → Nat → Int) (W : Nat → Int) (I : Nat → Bool) (N s t : Nat) : Int → Prop
  | one : Ins T W I N s t (hld (T s t))
  | more {a : Nat} {x : Int} : IAt T W I N s a x → Ins T W I N s t (addC x (T a t))
section
variable {T : Nat → Nat → Int} {W : Nat → Int} {I : Nat → Bool} {N s t a b : Nat} {x y z : Int}
theorem Ins.held (h : Ins T W I N s t x) : 0 ≤ x ∧ x ≤ 1152921504606846976 := by
  cases h with
  | one => exact ⟨hld_lo _, hld_hi _⟩
  | more _ => exact addC_held _ _
theorem hld_addC2 (a b : Int) : hld (addC a b) = addC a b := hld_in _ (addC_lo _ _) (addC_hi _ _)
theorem addC_zeroL (a b : Int) : addC 0 (addC a b) = addC a b := by rw [addC_comm, addC_zero, hld_addC2]
theorem IAt.att (h : IAt T W I N s a x) : Att (fun a b => addC (T a b) (W b)) N s a x := by
  induction h with
  | start hb _ =>
    rw [← addC_zeroL]
    exact .step .start hb
  | step _ hb _ ih =>
    rw [addC_assoc]
    exact .step ih hb
theorem Att.iat (hI : ∀ b, b < N → I b = true) (h : Att (fun a b => addC (T a b) (W b)) N s a x) : (a = s ∧ x = 0) ∨ IAt T W I N s a x := by
  induction h with
  | start => exact Or.inl ⟨rfl, rfl⟩
  | step _ hb ih =>
    right
    rcases ih with ⟨rfl, rfl⟩ | ih
    · rw [addC_zeroL]
      exact .start hb (hI _ hb)
    · rw [← addC_assoc]
      exact .step ih hb (hI _ hb)
theorem Ins.att (ht : t < N) (h : Ins T W I N s t y) : Att (fun a b => addC (T a b) (W b)) N s t (addC y (W t)) := by
  cases h with
  | one =>
    rw [hld_addC, ← addC_zeroL]
    exact .step .start ht
  | more h =>
    rw [addC_assoc]
    exact .step h.att ht
theorem Att.ins (hI : ∀ b, b < N → I b = true) (hst : s ≠ t) (h : Att (fun a b => addC (T a b) (W b)) N s t z) : ∃ y, Ins T W I N s t y ∧ z = addC y (W t) := by
  cases h with
  | start => exact absurd rfl hst
  | step h hb =>
    rcases h.iat hI with ⟨rfl, rfl⟩ | h
    · exact ⟨_, .one, by rw [hld_addC]; exact addC_zeroL _ _⟩
    · exact ⟨_, .more h, (addC_assoc _ _ _).symm⟩
/-- An answer that goes on till nothing is less any more. -/
theorem ins_of {d : Nat → Int} (hst : ∀ b, b < N → I b = true → d b ≤ addC (T s b) (W b)) (hcl : ∀ a b, a < N → b < N → I b = true → d b ≤ addC (addC (d a) (T a b)) (W b))
    (hx : x ≤ 1152921504606846976) (hxa : x < 1152921504606846976 → Ins T W I N s t x) (h1 : x ≤ hld (T s t)) (h2 : ∀ a, a < N → x ≤ addC (d a) (T a t)) : LeastOf (Ins T W I N s t) x := by
  have lt : ∀ {a y}, IAt T W I N s a y → a < N := by
    intro a y h
    cases h with
    | start h _ => exact h
    | step _ h _ => exact h
  have key : ∀ {a y}, IAt T W I N s a y → d a ≤ y := by
    intro a y h
    induction h with
    | start hb hi => exact hst _ hb hi
    | step h hb hi ih => exact Int.le_trans (hcl _ _ (lt h) hb hi) (addC_mono (addC_mono ih (Int.le_refl _)) (Int.le_refl _))
  refine ⟨hx, hxa, fun y hy => ?_⟩
  cases hy with
  | one => exact h1
  | more h => exact Int.le_trans (h2 _ (lt h)) (addC_mono (key h) (Int.le_refl _))
end

end Go.Proofs.YtgihaakgadmidaaGreat

/-
  Rows of costs that are told arc by arc, till nothing is less any more: plain mathematics, no program stands here.
-/
namespace Go.Proofs.YtgihaakgadmidaaGreat

/-- How far a row can still fall. -/
def potL : List Int → Nat
  | [] => 0
  | x :: r => x.toNat + potL r
theorem potL_set : ∀ (l : List Int) (b : Nat) (hb : b < l.length) (c : Int), 0 ≤ c → c < l[b] → potL (l.set b c) < potL l
  | x :: r, 0, _, c, h0, h1 => by
    simp only [List.getElem_cons_zero] at h1
    simp only [List.set_cons_zero, potL]
    omega
  | x :: r, b + 1, hb, c, h0, h1 => by
    simp only [List.getElem_cons_succ] at h1
    have := potL_set r b (by simpa using hb) c h0 h1
    simp only [List.set_cons_succ, potL]
    omega
/-- The i-th cost of a row. -/
def ctL (l : List Int) (i : Nat) : Int := l.getD i 1152921504606846976
theorem ctL_at {l : List Int} {i : Nat} (h : i < l.length) : ctL l i = l[i] := by simp [ctL, h]
theorem ctL_set (l : List Int) (b : Nat) (hb : b < l.length) (c : Int) (i : Nat) : ctL (l.set b c) i = if i = b then c else ctL l i := by
  unfold ctL
  by_cases e : i = b
  · subst e
    simp [hb]
  · rw [if_neg e]
    simp [List.getElem?_set_ne (Ne.symm e)]
/-- A row on the way: each cost is that of a walk. P b x: a walk to b costs x. -/
structure OnWay (P : Nat → Int → Prop) (N : Nat) (l : List Int) : Prop where
  len : l.length = N
  hi : ∀ b, b < N → ctL l b ≤ 1152921504606846976
  att : ∀ b, b < N → ctL l b < 1152921504606846976 → P b (ctL l b)
theorem OnWay.set {P : Nat → Int → Prop} {N : Nat} {l : List Int} (h : OnWay P N l) {b : Nat} (hb : b < N) {c : Int} (hc : c ≤ 1152921504606846976) (hp : P b c) : OnWay P N (l.set b c) := by
  have hbl : b < l.length := by rw [h.len]; exact hb
  refine ⟨by rw [List.length_set]; exact h.len, fun i hi => ?_, fun i hi hl => ?_⟩
  · rw [ctL_set l b hbl]
    split
    · exact hc
    · exact h.hi i hi
  · rw [ctL_set l b hbl] at hl ⊢
    split
    · next e => subst e; exact hp
    · next e => rw [if_neg e] at hl; exact h.att i hi hl
theorem OnWay.lo {P : Nat → Int → Prop} {N : Nat} {l : List Int} (h : OnWay P N l) (hP : ∀ b x, P b x → 0 ≤ x) {b : Nat} (hb : b < N) : 0 ≤ ctL l b := by
  by_cases hl : ctL l b < 1152921504606846976
  · exact hP _ _ (h.att b hb hl)
  · omega
theorem OnWay.from {h : Nat → Nat → Int} {N s : Nat} {l : List Int} (k : OnWay (Att h N s) N l) (hs : ctL l s ≤ 0) (hc : ∀ a b, a < N → b < N → ctL l b ≤ addC (ctL l a) (h a b)) : FromD h N s (ctL l) := ⟨k.hi, hs, k.att, hc⟩
theorem OnWay.to {h : Nat → Nat → Int} {N t : Nat} {l : List Int} (k : OnWay (BAtt h N t) N l) (ht : ctL l t ≤ 0) (hc : ∀ a b, a < N → b < N → ctL l a ≤ addC (ctL l b) (h a b)) : ToD h N t (ctL l) := ⟨k.hi, ht, k.att, hc⟩
/-- Two rows that both tell the least are one. -/
theorem from_rows {h : Nat → Nat → Int} {N s : Nat} {l m : List Int} (hs : s < N) (hl : l.length = N) (hm : m.length = N) (f : FromD h N s (ctL l)) (g : FromD h N s (ctL m)) : l = m := by
  refine List.ext_getElem (by omega) (fun i h1 h2 => ?_)
  have := f.uniq g hs (b := i) (by omega)
  rwa [ctL_at h1, ctL_at h2] at this
theorem to_rows {h : Nat → Nat → Int} {N t : Nat} {l m : List Int} (ht : t < N) (hl : l.length = N) (hm : m.length = N) (f : ToD h N t (ctL l)) (g : ToD h N t (ctL m)) : l = m := by
  refine List.ext_getElem (by omega) (fun i h1 h2 => ?_)
  have := f.uniq g ht (b := i) (by omega)
  rwa [ctL_at h1, ctL_at h2] at this

end Go.Proofs.YtgihaakgadmidaaGreat

/-
  Looking for the least rows of arcs, the least first: plain mathematics, no program stands here.
-/
namespace Go.Proofs.YtgihaakgadmidaaGreat
open HP

/-- What a row from s costs that ends at an arc; L a: what may be next behind a, and how much more it costs. -/
inductive LAt (L : Nat → List It) (s : Nat) : Nat → Int → Prop
  | start : LAt L s s 0
  | step {a : Nat} {y : It} {x : Int} : LAt L s a x → y ∈ L a → LAt L s y.1 (addC x y.2)
/-- The arc ahead. -/
def ctB (B : List Int) (i : Nat) : Int := B.getD i (-1)
theorem ctB_at {l : List Int} {i : Nat} (h : i < l.length) : ctB l i = l[i] := by simp [ctB, h]
theorem ctB_set (l : List Int) (b : Nat) (hb : b < l.length) (c : Int) (i : Nat) : ctB (l.set b c) i = if i = b then c else ctB l i := by
  unfold ctB
  by_cases e : i = b
  · subst e
    simp [hb]
  · rw [if_neg e]
    simp [List.getElem?_set_ne (Ne.symm e)]
/-- Where b is from: the beginning, or an arc of D. -/
def PreP (L : Nat → List It) (s : Nat) (C B : List Int) (D : List Nat) (b : Nat) (x : Int) : Prop :=
  (b = s ∧ x = 0 ∧ ctB B b = -1) ∨ (b ≠ s ∧ ∃ a, a ∈ D ∧ ∃ d, (b, d) ∈ L a ∧ x = addC (ctL C a) d ∧ ctB B b = (a : Int))
def Chn (L : Nat → List It) (s : Nat) (C B : List Int) : List Nat → Prop
  | [] => True
  | b :: D => PreP L s C B D b (ctL C b) ∧ Chn L s C B D
section
variable {L : Nat → List It} {N s : Nat} {C C' B B' : List Int} {D : List Nat} {m : Nat → Option Int} {E : Nat → It → Prop} {a b : Nat} {x c d : Int}
theorem PreP.congr {D' : List Nat} (h : PreP L s C B D b x) (hD : ∀ a, a ∈ D → a ∈ D') (hC : ∀ a, a ∈ D → ctL C a = ctL C' a) (hB : ctB B b = ctB B' b) : PreP L s C' B' D' b x := by
  rcases h with ⟨h1, h2, h3⟩ | ⟨h1, a, ha, d, h2, h3, h4⟩
  · exact Or.inl ⟨h1, h2, by rw [← hB]; exact h3⟩
  · exact Or.inr ⟨h1, a, hD a ha, d, h2, by rw [← hC a ha]; exact h3, by rw [← hB]; exact h4⟩
theorem Chn.congr : ∀ {D : List Nat}, Chn L s C B D → (∀ a, a ∈ D → ctL C a = ctL C' a) → (∀ a, a ∈ D → ctB B a = ctB B' a) → Chn L s C' B' D
  | [], _, _, _ => trivial
  | b :: D, ⟨h1, h2⟩, hC, hB => ⟨by rw [← hC b (by simp)]; exact h1.congr (fun _ h => h) (fun a ha => hC a (by simp [ha])) (hB b (by simp)), h2.congr (fun a ha => hC a (by simp [ha])) (fun a ha => hB a (by simp [ha]))⟩
theorem Chn.at : ∀ {D : List Nat}, Chn L s C B D → ∀ b, b ∈ D → PreP L s C B D b (ctL C b)
  | [], _, b, hb => by cases hb
  | y :: D, ⟨h1, h2⟩, b, hb => by
    rcases List.mem_cons.1 hb with rfl | hb
    · exact h1.congr (fun a ha => by simp [ha]) (fun _ _ => rfl) rfl
    · exact (h2.at b hb).congr (fun a ha => by simp [ha]) (fun _ _ => rfl) rfl
/-- What is next is arcs, and costs. -/
def StepsOK (L : Nat → List It) (N : Nat) : Prop := ∀ a, a < N → ∀ y, y ∈ L a → y.1 < N ∧ 0 ≤ y.2 ∧ y.2 ≤ 1152921504606846976
/-- On the way: D are out; of the rest m tells what is in; E: which steps have been looked at. -/
structure Dj (L : Nat → List It) (N s : Nat) (D : List Nat) (E : Nat → It → Prop) (C B : List Int) (m : Nat → Option Int) : Prop where
  cl : C.length = N
  bl : B.length = N
  dN : ∀ a, a ∈ D → a < N
  din : ∀ a, a ∈ D → 0 ≤ ctL C a ∧ ctL C a < 1152921504606846976
  dout : ∀ a, a < N → a ∉ D → ctL C a = 1152921504606846976
  nod : D.Nodup
  mon : ∀ a, a ∈ D → ∀ b x, m b = some x → ctL C a ≤ x
  att : ∀ a, a ∈ D → LAt L s a (ctL C a)
  hp : ∀ b x, m b = some x → b < N ∧ b ∉ D ∧ 0 ≤ x ∧ x < 1152921504606846976 ∧ PreP L s C B D b x
  chn : Chn L s C B D
  edom : ∀ a y, E a y → a ∈ D ∧ y ∈ L a
  fin : ∀ a y, E a y → y.1 ∈ D → ctL C y.1 ≤ addC (ctL C a) y.2
  opn : ∀ a y, E a y → y.1 ∉ D → (∃ x, m y.1 = some x ∧ x ≤ addC (ctL C a) y.2) ∨ addC (ctL C a) y.2 = 1152921504606846976
  srt : s ∈ D ∨ (D = [] ∧ m s = some 0 ∧ ∀ b, b ≠ s → m b = none)
theorem ctL_rep (N i : Nat) : ctL (List.replicate N 1152921504606846976) i = 1152921504606846976 := by
  unfold ctL
  by_cases h : i < N
  · simp [h]
  · simp [h]
theorem ctB_rep (N i : Nat) : ctB (List.replicate N (-1)) i = -1 := by
  unfold ctB
  by_cases h : i < N
  · simp [h]
  · simp [h]
theorem Dj.begin (hs : s < N) : Dj L N s [] (fun _ _ => False) (List.replicate N 1152921504606846976) (List.replicate N (-1)) (upd (fun _ => none) s (some 0)) where
  cl := by simp
  bl := by simp
  dN := fun a ha => by cases ha
  din := fun a ha => by cases ha
  dout := fun a _ _ => ctL_rep N a
  nod := List.nodup_nil
  mon := fun a ha => by cases ha
  att := fun a ha => by cases ha
  hp := fun b x h => by
    by_cases e : b = s
    · subst e
      rw [upd_at] at h
      injection h with h
      subst h
      exact ⟨hs, by simp, by omega, by omega, Or.inl ⟨rfl, rfl, ctB_rep N b⟩⟩
    · rw [upd_ne _ _ e] at h
      cases h
  chn := trivial
  edom := fun _ _ h => h.elim
  fin := fun _ _ h => h.elim
  opn := fun _ _ h => h.elim
  srt := Or.inr ⟨rfl, upd_at _ _ _, fun b hb => upd_ne _ _ hb⟩
theorem Dj.att_of (h : Dj L N s D E C B m) (k : PreP L s C B D b x) : LAt L s b x := by
  rcases k with ⟨rfl, rfl, -⟩ | ⟨-, a, ha, d, hd, rfl, -⟩
  · exact .start
  · exact LAt.step (y := (b, d)) (h.att a ha) hd
theorem Dj.pop (h : Dj L N s D E C B m) (hl : Lst m N (a, c)) : Dj L N s (a :: D) E (C.set a c) B (upd m a none) ∧ ∀ b, b ∈ a :: D → ctL (C.set a c) b ≤ ctL (C.set a c) a := by
  obtain ⟨hN, hm, hle⟩ := hl
  simp only [] at hN hm hle
  obtain ⟨-, haD, c0, c1, hpre⟩ := h.hp a c hm
  have hcl : a < C.length := by rw [h.cl]; exact hN
  have hca : ctL (C.set a c) a = c := by rw [ctL_set C a hcl, if_pos rfl]
  have hco : ∀ b, b ∈ D → ctL C b = ctL (C.set a c) b := fun b hb => by rw [ctL_set C a hcl, if_neg (fun e : b = a => haD (by rw [← e]; exact hb))]
  have hmo : ∀ b x, upd m a none b = some x → b ≠ a ∧ m b = some x := fun b x hb => by
    by_cases e : b = a
    · subst e; rw [upd_at] at hb; cases hb
    · rw [upd_ne _ _ e] at hb; exact ⟨e, hb⟩
  refine ⟨⟨by rw [List.length_set]; exact h.cl, h.bl, fun b hb => ?_, fun b hb => ?_, fun b hb hn => ?_, List.nodup_cons.2 ⟨haD, h.nod⟩, fun b hb k x hk => ?_, fun b hb => ?_, fun b x hb => ?_, ⟨?_, h.chn.congr hco (fun _ _ => rfl)⟩, fun b y he => ?_, fun b y he hy => ?_, fun b y he hy => ?_, ?_⟩, fun b hb => ?_⟩
  · rcases List.mem_cons.1 hb with rfl | hb
    · exact hN
    · exact h.dN b hb
  · rcases List.mem_cons.1 hb with rfl | hb
    · rw [hca]; exact ⟨c0, c1⟩
    · rw [← hco b hb]; exact h.din b hb
  · have hb2 : b ≠ a := fun e => hn (by simp [e])
    rw [ctL_set C a hcl, if_neg hb2]
    exact h.dout b hb (fun hd => hn (by simp [hd]))
  · obtain ⟨hka, hk2⟩ := hmo k x hk
    rcases List.mem_cons.1 hb with rfl | hb
    · rw [hca]
      have := hle k x (h.hp k x hk2).1 hk2
      unfold ahd at this
      simp only [] at this
      omega
    · rw [← hco b hb]; exact h.mon b hb k x hk2
  · rcases List.mem_cons.1 hb with rfl | hb
    · rw [hca]; exact h.att_of hpre
    · rw [← hco b hb]; exact h.att b hb
  · obtain ⟨hba, hb2⟩ := hmo b x hb
    obtain ⟨h1, h2, h3, h4, h5⟩ := h.hp b x hb2
    exact ⟨h1, fun e => (List.mem_cons.1 e).elim hba h2, h3, h4, h5.congr (fun a ha => by simp [ha]) hco rfl⟩
  · rw [hca]; exact hpre.congr (fun _ h => h) hco rfl
  · exact ⟨by simp [(h.edom b y he).1], (h.edom b y he).2⟩
  · rw [← hco b (h.edom b y he).1]
    by_cases e : y.1 = a
    · rw [e, hca]
      rcases h.opn b y he (by rw [e]; exact haD) with ⟨x, hx, hle⟩ | hi
      · rw [e, hm] at hx
        injection hx with hx
        omega
      · omega
    · have hy2 : y.1 ∈ D := (List.mem_cons.1 hy).elim (fun h => absurd h e) id
      rw [← hco _ hy2]
      exact h.fin b y he hy2
  · rw [← hco b (h.edom b y he).1]
    have e : y.1 ≠ a := fun e => hy (by simp [e])
    rw [upd_ne _ _ e]
    exact h.opn b y he (fun hd => hy (by simp [hd]))
  · rcases h.srt with hs | ⟨-, hs, ho⟩
    · exact Or.inl (by simp [hs])
    · refine Or.inl ?_
      by_cases e : a = s
      · simp [e]
      · rw [ho a e] at hm; cases hm
  · rw [hca]
    rcases List.mem_cons.1 hb with rfl | hb
    · rw [hca]; omega
    · rw [← hco b hb]; exact h.mon b hb a c hm
/-- A further step of a has been looked at. -/
def Eadd (E : Nat → It → Prop) (a : Nat) (y : It) : Nat → It → Prop := fun a' y' => E a' y' ∨ (a' = a ∧ y' = y)
theorem addC_up {u v : Int} (h0 : 0 ≤ u) (h1 : u ≤ 1152921504606846976) (h2 : 0 ≤ v) : u ≤ addC u v := by
  have e : addC u 0 = u := by rw [addC_zero]; exact hld_in _ h0 h1
  have := addC_mono (Int.le_refl u) h2
  rw [e] at this
  exact this
variable {y : It}
theorem Dj.inf (h : Dj L N s D E C B m) (ha : a ∈ D) (hy : y ∈ L a) (hi : addC (ctL C a) y.2 = 1152921504606846976) : Dj L N s D (Eadd E a y) C B m where
  cl := h.cl
  bl := h.bl
  dN := h.dN
  din := h.din
  dout := h.dout
  nod := h.nod
  mon := h.mon
  att := h.att
  hp := h.hp
  chn := h.chn
  edom := fun b z he => by
    rcases he with he | ⟨rfl, rfl⟩
    · exact h.edom b z he
    · exact ⟨ha, hy⟩
  fin := fun b z he hz => by
    rcases he with he | ⟨rfl, rfl⟩
    · exact h.fin b z he hz
    · have := (h.din _ hz).2
      omega
  opn := fun b z he hz => by
    rcases he with he | ⟨rfl, rfl⟩
    · exact h.opn b z he hz
    · exact Or.inr hi
  srt := h.srt
theorem Dj.out (h : Dj L N s D E C B m) (ha : a ∈ D) (hy : y ∈ L a) (hc : ∀ b, b ∈ D → ctL C b ≤ ctL C a) (h0 : 0 ≤ y.2) (hD : y.1 ∈ D) : Dj L N s D (Eadd E a y) C B m where
  cl := h.cl
  bl := h.bl
  dN := h.dN
  din := h.din
  dout := h.dout
  nod := h.nod
  mon := h.mon
  att := h.att
  hp := h.hp
  chn := h.chn
  edom := fun b z he => by
    rcases he with he | ⟨rfl, rfl⟩
    · exact h.edom b z he
    · exact ⟨ha, hy⟩
  fin := fun b z he hz => by
    rcases he with he | ⟨rfl, rfl⟩
    · exact h.fin b z he hz
    · have h1 := h.din b ha
      have h2 := hc z.1 hz
      have := addC_up h1.1 (by omega) h0
      omega
  opn := fun b z he hz => by
    rcases he with he | ⟨rfl, rfl⟩
    · exact h.opn b z he hz
    · exact absurd hD hz
  srt := h.srt
theorem Dj.high (h : Dj L N s D E C B m) (ha : a ∈ D) (hy : y ∈ L a) (hc : ∀ b, b ∈ D → ctL C b ≤ ctL C a) (h0 : 0 ≤ y.2) (hD : y.1 ∉ D) (hm : m y.1 = some x) (hx : x ≤ addC (ctL C a) y.2) : Dj L N s D (Eadd E a y) C B m where
  cl := h.cl
  bl := h.bl
  dN := h.dN
  din := h.din
  dout := h.dout
  nod := h.nod
  mon := h.mon
  att := h.att
  hp := h.hp
  chn := h.chn
  edom := fun b z he => by
    rcases he with he | ⟨rfl, rfl⟩
    · exact h.edom b z he
    · exact ⟨ha, hy⟩
  fin := fun b z he hz => by
    rcases he with he | ⟨rfl, rfl⟩
    · exact h.fin b z he hz
    · exact absurd hz hD
  opn := fun b z he hz => by
    rcases he with he | ⟨rfl, rfl⟩
    · exact h.opn b z he hz
    · exact Or.inl ⟨x, hm, hx⟩
  srt := h.srt
theorem Dj.put (h : Dj L N s D E C B m) (ha : a ∈ D) (hy : y ∈ L a) (hN : y.1 < N) (hc : ∀ b, b ∈ D → ctL C b ≤ ctL C a) (h0 : 0 ≤ y.2) (hi : addC (ctL C a) y.2 < 1152921504606846976) (hD : y.1 ∉ D) (hm : ∀ x, m y.1 = some x → addC (ctL C a) y.2 ≤ x) : Dj L N s D (Eadd E a y) C (B.set y.1 (a : Int)) (upd m y.1 (some (addC (ctL C a) y.2))) := by
  have hsD : s ∈ D := by
    rcases h.srt with hs | ⟨rfl, -, -⟩
    · exact hs
    · cases ha
  have hys : y.1 ≠ s := fun e => hD (by rw [e]; exact hsD)
  have hbl : y.1 < B.length := by rw [h.bl]; exact hN
  have hB : ∀ b, b ≠ y.1 → ctB B b = ctB (B.set y.1 (a : Int)) b := fun b hb => by rw [ctB_set B y.1 hbl, if_neg hb]
  have hBD : ∀ b, b ∈ D → ctB B b = ctB (B.set y.1 (a : Int)) b := fun b hb => hB b (fun e => hD (by rw [← e]; exact hb))
  have hge : ∀ b, b ∈ D → ctL C b ≤ addC (ctL C a) y.2 := fun b hb => by
    have h1 := h.din a ha
    have h2 := hc b hb
    have := addC_up h1.1 (by omega) h0
    omega
  refine ⟨h.cl, by rw [List.length_set]; exact h.bl, h.dN, h.din, h.dout, h.nod, fun b hb k x hk => ?_, h.att, fun b x hb => ?_, h.chn.congr (fun _ _ => rfl) hBD, fun b z he => ?_, fun b z he hz => ?_, fun b z he hz => ?_, Or.inl hsD⟩
  · by_cases e : k = y.1
    · subst e
      rw [upd_at] at hk
      injection hk with hk
      subst hk
      exact hge b hb
    · rw [upd_ne _ _ e] at hk
      exact h.mon b hb k x hk
  · by_cases e : b = y.1
    · subst e
      rw [upd_at] at hb
      injection hb with hb
      subst hb
      exact ⟨hN, hD, addC_lo _ _, hi, Or.inr ⟨hys, a, ha, y.2, hy, rfl, by rw [ctB_set B y.1 hbl, if_pos rfl]⟩⟩
    · rw [upd_ne _ _ e] at hb
      obtain ⟨h1, h2, h3, h4, h5⟩ := h.hp b x hb
      exact ⟨h1, h2, h3, h4, h5.congr (fun _ h => h) (fun _ _ => rfl) (hB b e)⟩
  · rcases he with he | ⟨rfl, rfl⟩
    · exact h.edom b z he
    · exact ⟨ha, hy⟩
  · rcases he with he | ⟨rfl, rfl⟩
    · exact h.fin b z he hz
    · exact absurd hz hD
  · rcases he with he | ⟨rfl, rfl⟩
    · by_cases e : z.1 = y.1
      · rcases h.opn b z he hz with ⟨x, hx, hle⟩ | hinf
        · refine Or.inl ⟨_, by rw [e, upd_at], ?_⟩
          have := hm x (by rw [← e]; exact hx)
          omega
        · exact Or.inr hinf
      · rw [upd_ne _ _ e]
        exact h.opn b z he hz
    · exact Or.inl ⟨_, upd_at _ _ _, Int.le_refl _⟩
theorem Dj.congrE {E' : Nat → It → Prop} (h : Dj L N s D E C B m) (hE : ∀ a y, E' a y → E a y) : Dj L N s D E' C B m :=
  ⟨h.cl, h.bl, h.dN, h.din, h.dout, h.nod, h.mon, h.att, h.hp, h.chn, fun a y e => h.edom a y (hE a y e), fun a y e => h.fin a y (hE a y e), fun a y e => h.opn a y (hE a y e), h.srt⟩
/-- What has been found. -/
structure DjOut (L : Nat → List It) (N s : Nat) (C B : List Int) : Prop where
  cl : C.length = N
  bl : B.length = N
  hi : ∀ b, b < N → 0 ≤ ctL C b ∧ ctL C b ≤ 1152921504606846976
  start : ctL C s = 0
  att : ∀ b, b < N → ctL C b < 1152921504606846976 → LAt L s b (ctL C b)
  closed : ∀ a, a < N → ∀ y, y ∈ L a → y.1 < N → ctL C y.1 ≤ addC (ctL C a) y.2
  way : ∃ D, Chn L s C B D ∧ D.Nodup ∧ (∀ a, a ∈ D → a < N ∧ ctL C a < 1152921504606846976) ∧ ∀ a, a < N → ctL C a < 1152921504606846976 → a ∈ D
theorem Dj.done (h : Dj L N s D (fun a y => a ∈ D ∧ y ∈ L a) C B m) (hm : ∀ k, k < N → m k = none) (hs : s < N) : DjOut L N s C B := by
  have hsD : s ∈ D := by
    rcases h.srt with hs | ⟨-, h2, -⟩
    · exact hs
    · rw [hm s hs] at h2; cases h2
  have hin : ∀ a, a < N → ctL C a < 1152921504606846976 → a ∈ D := fun a ha hl => by
    by_cases hd : a ∈ D
    · exact hd
    · have := h.dout a ha hd
      omega
  have hhi : ∀ b, b < N → 0 ≤ ctL C b ∧ ctL C b ≤ 1152921504606846976 := fun b hb => by
    by_cases hd : b ∈ D
    · have := h.din b hd
      omega
    · have := h.dout b hb hd
      omega
  refine ⟨h.cl, h.bl, hhi, ?_, fun b hb hl => h.att b (hin b hb hl), fun a ha y hy hyN => ?_, D, h.chn, h.nod, fun a ha => ⟨h.dN a ha, (h.din a ha).2⟩, hin⟩
  · rcases h.chn.at s hsD with ⟨-, hx, -⟩ | ⟨hn, -⟩
    · exact hx
    · exact absurd rfl hn
  · by_cases hd : a ∈ D
    · by_cases hy2 : y.1 ∈ D
      · exact h.fin a y ⟨hd, hy⟩ hy2
      · rcases h.opn a y ⟨hd, hy⟩ hy2 with ⟨x, hx, -⟩ | hi
        · rw [hm y.1 hyN] at hx; cases hx
        · rw [hi]; exact (hhi _ hyN).2
    · rw [h.dout a ha hd, addC_infL]
      exact (hhi _ hyN).2
theorem LAt.held (h : LAt L s a x) : 0 ≤ x ∧ x ≤ 1152921504606846976 := by
  cases h with
  | start => omega
  | step _ _ => exact addC_held _ _
/-- No row costs less than what was found. -/
theorem DjOut.le (h : DjOut L N s C B) (hL : StepsOK L N) (hs : s < N) (k : LAt L s b x) : b < N ∧ ctL C b ≤ x := by
  induction k with
  | start => exact ⟨hs, Int.le_of_eq h.start⟩
  | step k hy ih => exact ⟨(hL _ ih.1 _ hy).1, Int.le_trans (h.closed _ ih.1 _ hy (hL _ ih.1 _ hy).1) (addC_mono ih.2 (Int.le_refl _))⟩
end

end Go.Proofs.YtgihaakgadmidaaGreat

/-
  The least walks of a net: what may be next, ahead, within; plain mathematics, no program stands here.
-/
namespace Go.Proofs.YtgihaakgadmidaaGreat
open HP

/-- What an arc costs. -/
def wN (n : NetD) (a : Nat) : Int := (n.arc a).2.2
/-- What it costs to turn from a into b and go along b. -/
def oN (n : NetD) (a b : Nat) : Int := addC (n.turn a b) (wN n b)
/-- .. where a may be gone along. -/
def hN (n : NetD) (a b : Nat) : Int := if wN n a = 1152921504606846976 then 1152921504606846976 else oN n a b
/-- The arcs that may be next behind a. -/
def onwL (n : NetD) (a : Nat) : List It := (outsL n.a (n.arc a).2.1).map fun b => (b.toNat, oN n a b.toNat)
/-- The arcs that may be right ahead of b. -/
def bckL (n : NetD) (b : Nat) : List It := ((insL n.a (n.arc b).1).filter fun a => decide (¬ wN n a.toNat = 1152921504606846976)).map fun a => (a.toNat, oN n a.toNat b)
/-- .. next, within. -/
def inwL (n : NetD) (I : Nat → Bool) (a : Nat) : List It := (onwL n a).filter fun y => I y.1
section
variable {n : NetD} {a b s t : Nat} {x : Int} {I : Nat → Bool}
theorem outs_mem {v : Int} {y : Int} : y ∈ outsL n.a v ↔ ∃ k : Nat, k < n.a.length ∧ y = k ∧ (n.arc k).1 = v := by
  constructor
  · intro h
    obtain ⟨i, hi, rfl⟩ := List.getElem_of_mem h
    obtain ⟨k, hk, e, e2, -⟩ := outs_at hi
    exact ⟨k, hk, e, by rw [NetGood.arc_at k hk]; exact e2⟩
  · rintro ⟨k, hk, rfl, e⟩
    rw [NetGood.arc_at k hk] at e
    have e' : n.a = n.a.take k ++ n.a[k] :: n.a.drop (k + 1) := by rw [List.getElem_cons_drop, List.take_append_drop]
    have hl : (0 : Int) + ((n.a.take k).length : Int) = k := by rw [List.length_take, Nat.min_eq_left (by omega), Int.zero_add]
    unfold outsL
    rw [e', idxFrom_append, hl]
    refine List.mem_append.2 (Or.inr ?_)
    unfold idxFrom
    rw [if_pos (by simpa using e)]
    simp
theorem ins_mem {v : Int} {y : Int} : y ∈ insL n.a v ↔ ∃ k : Nat, k < n.a.length ∧ y = k ∧ (n.arc k).2.1 = v := by
  constructor
  · intro h
    obtain ⟨i, hi, rfl⟩ := List.getElem_of_mem h
    obtain ⟨k, hk, e, e2, -⟩ := ins_at hi
    exact ⟨k, hk, e, by rw [NetGood.arc_at k hk]; exact e2⟩
  · rintro ⟨k, hk, rfl, e⟩
    rw [NetGood.arc_at k hk] at e
    have e' : n.a = n.a.take k ++ n.a[k] :: n.a.drop (k + 1) := by rw [List.getElem_cons_drop, List.take_append_drop]
    have hl : (0 : Int) + ((n.a.take k).length : Int) = k := by rw [List.length_take, Nat.min_eq_left (by omega), Int.zero_add]
    unfold insL
    rw [e', idxFrom_append, hl]
    refine List.mem_append.2 (Or.inr ?_)
    unfold idxFrom
    rw [if_pos (by simpa using e)]
    simp
theorem oN_bd (n : NetD) (a b : Nat) : 0 ≤ oN n a b ∧ oN n a b ≤ 1152921504606846976 := addC_held _ _
theorem onw_mem {y : It} : y ∈ onwL n a ↔ y.1 < n.a.length ∧ (n.arc y.1).1 = (n.arc a).2.1 ∧ y.2 = oN n a y.1 := by
  unfold onwL
  rw [List.mem_map]
  constructor
  · rintro ⟨b, hb, rfl⟩
    obtain ⟨k, hk, rfl, e⟩ := outs_mem.1 hb
    simp only [Int.toNat_natCast]
    exact ⟨hk, e, trivial⟩
  · rintro ⟨hk, e, e2⟩
    refine ⟨(y.1 : Int), outs_mem.2 ⟨y.1, hk, rfl, e⟩, ?_⟩
    simp only [Int.toNat_natCast]
    rw [← e2]
theorem bck_mem {y : It} : y ∈ bckL n b ↔ y.1 < n.a.length ∧ (n.arc y.1).2.1 = (n.arc b).1 ∧ ¬ wN n y.1 = 1152921504606846976 ∧ y.2 = oN n y.1 b := by
  unfold bckL
  rw [List.mem_map]
  constructor
  · rintro ⟨a, ha, rfl⟩
    obtain ⟨ha, hw⟩ := List.mem_filter.1 ha
    obtain ⟨k, hk, rfl, e⟩ := ins_mem.1 ha
    simp only [Int.toNat_natCast] at hw ⊢
    exact ⟨hk, e, by simpa using hw, trivial⟩
  · rintro ⟨hk, e, hw, e2⟩
    refine ⟨(y.1 : Int), List.mem_filter.2 ⟨ins_mem.2 ⟨y.1, hk, rfl, e⟩, by simpa using hw⟩, ?_⟩
    simp only [Int.toNat_natCast]
    rw [← e2]
theorem inw_mem {y : It} : y ∈ inwL n I a ↔ (y.1 < n.a.length ∧ (n.arc y.1).1 = (n.arc a).2.1 ∧ y.2 = oN n a y.1) ∧ I y.1 = true := by
  unfold inwL
  rw [List.mem_filter, onw_mem]
theorem onw_ok (n : NetD) : StepsOK (onwL n) n.a.length := fun a _ y hy => by
  obtain ⟨h1, -, h2⟩ := onw_mem.1 hy
  rw [h2]
  exact ⟨h1, oN_bd n a y.1⟩
theorem bck_ok (n : NetD) : StepsOK (bckL n) n.a.length := fun b _ y hy => by
  obtain ⟨h1, -, -, h2⟩ := bck_mem.1 hy
  rw [h2]
  exact ⟨h1, oN_bd n y.1 b⟩
theorem inw_ok (n : NetD) (I : Nat → Bool) : StepsOK (inwL n I) n.a.length := fun a _ y hy => by
  obtain ⟨⟨h1, -, h2⟩, -⟩ := inw_mem.1 hy
  rw [h2]
  exact ⟨h1, oN_bd n a y.1⟩
theorem oN_apart (h : ¬ (a < n.a.length ∧ b < n.a.length ∧ (n.arc a).2.1 = (n.arc b).1)) : oN n a b = 1152921504606846976 := by
  unfold oN
  rw [turn_apart (fun ⟨h1, h2, h3⟩ => h ⟨by unfold NetD.there at h1; simp at h1; omega, by unfold NetD.there at h2; simp at h2; omega, h3⟩), addC_infL]
theorem turn_apartN (h : ¬ (a < n.a.length ∧ b < n.a.length ∧ (n.arc a).2.1 = (n.arc b).1)) : n.turn a b = 1152921504606846976 :=
  turn_apart (fun ⟨h1, h2, h3⟩ => h ⟨by unfold NetD.there at h1; simp at h1; omega, by unfold NetD.there at h2; simp at h2; omega, h3⟩)
theorem addC_ltL {u v : Int} (h : addC u v < 1152921504606846976) (hu : u ≤ 1152921504606846976) : u < 1152921504606846976 := by
  by_cases e : u = 1152921504606846976
  · rw [e, addC_infL] at h; omega
  · omega
theorem addC_ltR {u v : Int} (h : addC u v < 1152921504606846976) : v ≠ 1152921504606846976 := by
  rintro rfl
  rw [addC_inf] at h; omega
/-- A row that costs less than Inf is a walk, of arcs that may be gone along. -/
theorem onw_att (hs : wN n s ≠ 1152921504606846976) (h : LAt (onwL n) s b x) : x < 1152921504606846976 → Att (hN n) n.a.length s b x ∧ wN n b ≠ 1152921504606846976 := by
  induction h with
  | start => exact fun _ => ⟨.start, hs⟩
  | @step a y x h hy ih =>
    intro hx
    obtain ⟨h1, h2, h3⟩ := onw_mem.1 hy
    obtain ⟨k1, k2⟩ := ih (addC_ltL hx h.held.2)
    have he : hN n a y.1 = y.2 := by unfold hN; rw [if_neg k2, h3]
    refine ⟨?_, ?_⟩
    · rw [← he]; exact .step k1 h1
    · intro e
      have h4 := addC_ltR hx
      rw [h3] at h4
      unfold oN at h4
      rw [e, addC_inf] at h4
      exact h4 rfl
theorem bck_att (h : LAt (bckL n) t b x) : BAtt (hN n) n.a.length t b x := by
  induction h with
  | start => exact .start
  | @step a y x h hy ih =>
    obtain ⟨h1, h2, h3, h4⟩ := bck_mem.1 hy
    have he : hN n y.1 a = y.2 := by unfold hN; rw [if_neg h3, h4]
    rw [← he]
    exact .step ih h1
theorem inw_att (h : LAt (inwL n I) s b x) : (b = s ∧ x = 0) ∨ IAt (fun a b => n.turn a b) (wN n) I n.a.length s b x := by
  induction h with
  | start => exact Or.inl ⟨rfl, rfl⟩
  | @step a y x h hy ih =>
    obtain ⟨⟨h1, h2, h3⟩, h4⟩ := inw_mem.1 hy
    right
    rw [h3]
    rcases ih with ⟨rfl, rfl⟩ | ih
    · unfold oN
      rw [addC_zeroL]
      exact .start h1 h4
    · unfold oN
      rw [← addC_assoc]
      exact .step ih h1 h4
/-- .. and the other way round. -/
theorem iat_inw (h : IAt (fun a b => n.turn a b) (wN n) I n.a.length s b x) : (x = 1152921504606846976 ∨ LAt (inwL n I) s b x) ∧ b < n.a.length := by
  induction h with
  | @start b hb hI =>
    refine ⟨?_, hb⟩
    by_cases e : s < n.a.length ∧ b < n.a.length ∧ (n.arc s).2.1 = (n.arc b).1
    · right
      have := LAt.step (L := inwL n I) (y := (b, oN n s b)) (.start (s := s)) (inw_mem.2 ⟨⟨hb, e.2.2.symm, rfl⟩, hI⟩)
      unfold oN at this
      rw [addC_zeroL] at this
      exact this
    · left
      have := oN_apart e
      unfold oN at this
      exact this
  | @step a b x h hb hI ih =>
    refine ⟨?_, hb⟩
    rw [addC_assoc]
    rcases ih.1 with rfl | k
    · left; rw [addC_infL]
    · by_cases e : a < n.a.length ∧ b < n.a.length ∧ (n.arc a).2.1 = (n.arc b).1
      · right
        exact LAt.step (L := inwL n I) (y := (b, oN n a b)) k (inw_mem.2 ⟨⟨hb, e.2.2.symm, rfl⟩, hI⟩)
      · left
        have := oN_apart e
        unfold oN at this
        rw [this, addC_inf]
end
/-- What From tells. -/
def FromP (n : NetD) (s : Int) (C : List Int) : Prop :=
  C.length = n.a.length ∧ ((∃ k : Nat, s = k ∧ k < n.a.length ∧ wN n k ≠ 1152921504606846976 ∧ FromD (hN n) n.a.length k (ctL C)) ∨ ((∀ k : Nat, s = k → k < n.a.length → wN n k = 1152921504606846976) ∧ C = List.replicate n.a.length 1152921504606846976))
/-- What To tells. -/
def ToP (n : NetD) (s : Int) (C : List Int) : Prop :=
  C.length = n.a.length ∧ ((∃ k : Nat, s = k ∧ k < n.a.length ∧ wN n k ≠ 1152921504606846976 ∧ ToD (hN n) n.a.length k (ctL C)) ∨ ((∀ k : Nat, s = k → k < n.a.length → wN n k = 1152921504606846976) ∧ C = List.replicate n.a.length 1152921504606846976))
section
variable {n : NetD} {s t : Int} {C D : List Int} {B : List Int} {k j m : Nat}
theorem FromP.uniq (h : FromP n s C) (g : FromP n s D) : C = D := by
  rcases h with ⟨h0, ⟨k, rfl, h1, h2, h3⟩ | ⟨h1, h2⟩⟩
  · rcases g with ⟨g0, ⟨j, e, g1, g2, g3⟩ | ⟨g1, g2⟩⟩
    · obtain rfl : k = j := by omega
      exact from_rows h1 h0 g0 h3 g3
    · exact absurd (g1 k rfl h1) h2
  · rcases g with ⟨g0, ⟨j, e, g1, g2, g3⟩ | ⟨g1, g2⟩⟩
    · exact absurd (h1 j e g1) g2
    · rw [h2, g2]
theorem ToP.uniq (h : ToP n s C) (g : ToP n s D) : C = D := by
  rcases h with ⟨h0, ⟨k, rfl, h1, h2, h3⟩ | ⟨h1, h2⟩⟩
  · rcases g with ⟨g0, ⟨j, e, g1, g2, g3⟩ | ⟨g1, g2⟩⟩
    · obtain rfl : k = j := by omega
      exact to_rows h1 h0 g0 h3 g3
    · exact absurd (g1 k rfl h1) h2
  · rcases g with ⟨g0, ⟨j, e, g1, g2, g3⟩ | ⟨g1, g2⟩⟩
    · exact absurd (h1 j e g1) g2
    · rw [h2, g2]
theorem FromP.bd (h : FromP n s C) (j : Nat) (hj : j < n.a.length) : 0 ≤ ctL C j ∧ ctL C j ≤ 1152921504606846976 := by
  rcases h with ⟨h0, ⟨k, rfl, h1, h2, h3⟩ | ⟨h1, rfl⟩⟩
  · exact ⟨h3.lo hj, h3.hi j hj⟩
  · rw [ctL_rep]; omega
/-- What is found onward. -/
theorem DjOut.fromD (h : DjOut (onwL n) n.a.length k C B) (hk : k < n.a.length) (ho : wN n k ≠ 1152921504606846976) : FromP n k C := by
  refine ⟨h.cl, Or.inl ⟨k, rfl, hk, ho, fun b hb => (h.hi b hb).2, by rw [h.start]; exact Int.le_refl _, fun b hb hl => (onw_att ho (h.att b hb hl) hl).1, fun a b ha hb => ?_⟩⟩
  unfold hN
  split
  · rw [addC_inf]; exact (h.hi b hb).2
  · by_cases e : a < n.a.length ∧ b < n.a.length ∧ (n.arc a).2.1 = (n.arc b).1
    · exact h.closed a ha (b, oN n a b) (onw_mem.2 ⟨hb, e.2.2.symm, rfl⟩) hb
    · rw [oN_apart e, addC_inf]; exact (h.hi b hb).2
theorem DjOut.toD (h : DjOut (bckL n) n.a.length k C B) (hk : k < n.a.length) (ho : wN n k ≠ 1152921504606846976) : ToP n k C := by
  refine ⟨h.cl, Or.inl ⟨k, rfl, hk, ho, fun b hb => (h.hi b hb).2, by rw [h.start]; exact Int.le_refl _, fun b hb hl => bck_att (h.att b hb hl), fun a b ha hb => ?_⟩⟩
  unfold hN
  split
  · rw [addC_inf]; exact (h.hi a ha).2
  · next hw =>
    by_cases e : a < n.a.length ∧ b < n.a.length ∧ (n.arc a).2.1 = (n.arc b).1
    · exact h.closed b hb (a, oN n a b) (bck_mem.2 ⟨ha, e.2.2, hw, rfl⟩) ha
    · rw [oN_apart e, addC_inf]; exact (h.hi a ha).2
/-- The least over a row of arcs. -/
def minT (n : NetD) (C : List Int) (t : Nat) (l : List Int) : Int := l.foldl (fun x a => min x (addC (ctL C a.toNat) (n.turn a t))) 1152921504606846976
theorem minT_snoc (n : NetD) (C : List Int) (t : Nat) (l : List Int) (a : Int) : minT n C t (l ++ [a]) = min (minT n C t l) (addC (ctL C a.toNat) (n.turn a t)) := by
  unfold minT; rw [List.foldl_append]; rfl
theorem minT_spec (n : NetD) (C : List Int) (t : Nat) (l : List Int) : minT n C t l ≤ 1152921504606846976 ∧ (∀ a, a ∈ l → minT n C t l ≤ addC (ctL C a.toNat) (n.turn a t)) ∧ (minT n C t l < 1152921504606846976 → ∃ a, a ∈ l ∧ minT n C t l = addC (ctL C a.toNat) (n.turn a t)) := by
  suffices key : ∀ (r : List Int) (u : List Int), u.reverse = r → minT n C t u ≤ 1152921504606846976 ∧ (∀ a, a ∈ u → minT n C t u ≤ addC (ctL C a.toNat) (n.turn a t)) ∧ (minT n C t u < 1152921504606846976 → ∃ a, a ∈ u ∧ minT n C t u = addC (ctL C a.toNat) (n.turn a t)) from key _ l rfl
  intro r
  induction r with
  | nil =>
    intro u hu
    have : u = [] := by simpa using hu
    subst this
    have e : minT n C t [] = 1152921504606846976 := rfl
    rw [e]
    exact ⟨Int.le_refl _, fun a ha => (by cases ha), fun h => absurd h (by omega)⟩
  | cons y r ih =>
    intro u hu
    obtain rfl : u = r.reverse ++ [y] := by rw [← List.reverse_reverse u, hu]; simp
    obtain ⟨h1, h2, h3⟩ := ih r.reverse (by simp)
    rw [minT_snoc]
    refine ⟨by omega, fun a ha => ?_, fun hl => ?_⟩
    · rcases List.mem_append.1 ha with ha | ha
      · have := h2 a ha
        omega
      · obtain rfl := List.mem_singleton.1 ha
        omega
    · by_cases e : minT n C t r.reverse ≤ addC (ctL C y.toNat) (n.turn y t)
      · rw [Int.min_eq_left e] at hl ⊢
        obtain ⟨a, ha, k⟩ := h3 hl
        exact ⟨a, List.mem_append.2 (Or.inl ha), k⟩
      · rw [Int.min_eq_right (by omega)]
        exact ⟨y, by simp, rfl⟩
/-- What is found within. -/
theorem DjOut.inside {I : Nat → Bool} (h : DjOut (inwL n I) n.a.length k C B) (hk : k < n.a.length) : LeastOf (Ins (fun a b => n.turn a b) (wN n) I n.a.length k j) (minT n C j (insL n.a (n.arc j).1)) := by
  obtain ⟨m1, m2, m3⟩ := minT_spec n C j (insL n.a (n.arc j).1)
  have via : ∀ a : Nat, a < n.a.length → minT n C j (insL n.a (n.arc j).1) ≤ addC (ctL C a) (n.turn a j) := fun a ha => by
    by_cases e : (n.arc a).2.1 = (n.arc j).1
    · have := m2 (a : Int) (ins_mem.2 ⟨a, ha, rfl, e⟩)
      simpa using this
    · rw [turn_apartN (fun h => e h.2.2), addC_inf]; exact m1
  refine ⟨m1, fun hl => ?_, fun x hx => ?_⟩
  · obtain ⟨a, ha, e⟩ := m3 hl
    obtain ⟨q, hq, rfl, e2⟩ := ins_mem.1 ha
    rw [Int.toNat_natCast] at e
    rw [e] at hl ⊢
    have hlt := addC_ltL hl (h.hi q hq).2
    rcases inw_att (h.att q hq hlt) with ⟨rfl, e0⟩ | k2
    · rw [e0, addC_comm, addC_zero]
      exact .one
    · exact .more k2
  · cases hx with
    | one =>
      have := via k hk
      rw [h.start, addC_comm, addC_zero] at this
      exact this
    | @more a y k2 =>
      obtain ⟨h1, h2⟩ := iat_inw k2
      refine Int.le_trans (via a h2) (addC_mono ?_ (Int.le_refl _))
      rcases h1 with rfl | h1
      · exact (h.hi a h2).2
      · exact (h.le (inw_ok n I) hk h1).2
end

end Go.Proofs.YtgihaakgadmidaaGreat

/-
  What a row of arcs costs, told arc by arc; the row that was found, from its end: plain mathematics, no program stands here.
-/
namespace Go.Proofs.YtgihaakgadmidaaGreat
open HP

/-- What an arc costs, Inf where there is none. -/
def wt (n : NetD) (a : Int) : Int := if n.there a = true then (n.arc a).2.2 else 1152921504606846976
/-- To turn from a into b and go along b. -/
def ontoZ (n : NetD) (a b : Int) : Int := addC (n.turn a b) (wt n b)
section
variable {n : NetD} {l : List Int} {a b : Int}
theorem wt_at {k : Nat} (hk : k < n.a.length) : wt n k = wN n k := by unfold wt; rw [if_pos (there_at hk)]; rfl
theorem wt_not (h : n.there a = false) : wt n a = 1152921504606846976 := by unfold wt; rw [h, if_neg (by simp)]
theorem wN_bd (hg : NetGood n) {k : Nat} (hk : k < n.a.length) : 0 ≤ wN n k ∧ wN n k ≤ 1152921504606846976 := by
  unfold wN
  rw [NetGood.arc_at k hk]
  have := wgt_in (hg.arcs k hk).2.2.2.2
  omega
theorem wt_bd (hg : NetGood n) (a : Int) : 0 ≤ wt n a ∧ wt n a ≤ 1152921504606846976 := by
  cases h : n.there a with
  | false => rw [wt_not h]; omega
  | true =>
    obtain ⟨k, rfl, hk⟩ := there_of h
    rw [wt_at hk]
    exact wN_bd hg hk
theorem ontoZ_arc (n : NetD) (a b : Int) : ontoZ n a b = addC (n.turn a b) (n.arc b).2.2 := by
  unfold ontoZ wt
  split
  · rfl
  · next h => rw [turn_apart (fun h1 => h h1.2.1), addC_infL, addC_infL]
theorem ontoZ_at {i j : Nat} (hj : j < n.a.length) : ontoZ n i j = oN n i j := by unfold ontoZ oN; rw [wt_at hj]
theorem stepOK_zero : n.stepOK l 0 = true ↔ wt n (l.getD 0 0) ≠ 1152921504606846976 := by
  unfold NetD.stepOK wt
  cases n.there (l.getD 0 0) <;> simp
theorem costTo_snoc (n : NetD) (l : List Int) (k : Nat) : n.costTo l (k + 2) = addC (n.costTo l (k + 1)) (ontoZ n (l.getD k 0) (l.getD (k + 1) 0)) := by
  rw [ontoZ_arc]
  rfl
theorem costTo_inf {k : Nat} (h1 : 0 < k) (hk : n.stepOK l k = false) : ∀ j, n.costTo l (k + 1 + j) = 1152921504606846976
  | 0 => by
    obtain ⟨i, rfl⟩ : ∃ i, k = i + 1 := ⟨k - 1, by omega⟩
    show n.costTo l (i + 2) = _
    rw [costTo_snoc]
    have : ontoZ n (l.getD i 0) (l.getD (i + 1) 0) = 1152921504606846976 := by
      unfold NetD.stepOK at hk
      unfold ontoZ wt
      cases hT : n.there (l.getD (i + 1) 0) with
      | false => rw [if_neg (by simp), addC_inf]
      | true =>
        rw [if_pos rfl]
        rw [hT] at hk
        by_cases hw : (n.arc (l.getD (i + 1) 0)).2.2 = 1152921504606846976
        · rw [hw, addC_inf]
        · by_cases ht : n.turn (l.getD i 0) (l.getD (i + 1) 0) = 1152921504606846976
          · rw [ht, addC_infL]
          · exfalso
            simp at hk
            exact ht (by simpa using hk (by simpa using hw))
    rw [this, addC_inf]
  | j + 1 => by
    have ih := costTo_inf h1 hk j
    obtain ⟨i, hi⟩ : ∃ i, k + 1 + j = i + 1 := ⟨k + j, by omega⟩
    rw [show k + 1 + (j + 1) = i + 2 from by omega, costTo_snoc, ← hi, ih, addC_infL]
theorem cost_open (h0 : 0 < l.length) (ho : n.stepOK l 0 = true) : n.cost l = n.costTo l l.length := by
  unfold NetD.cost
  split
  · rfl
  · next hw =>
    have : ∃ i, i < l.length ∧ n.stepOK l i = false := by
      refine Classical.byContradiction fun hn => hw ((walk_of h0).2 fun i hi => ?_)
      cases hs : n.stepOK l i with
      | true => rfl
      | false => exact absurd ⟨i, hi, hs⟩ hn
    obtain ⟨i, hi, hs⟩ := this
    have hi0 : 0 < i := by
      rcases Nat.eq_zero_or_pos i with rfl | h
      · rw [ho] at hs; cases hs
      · exact h
    have := costTo_inf hi0 hs (l.length - (i + 1))
    rw [show i + 1 + (l.length - (i + 1)) = l.length from by omega] at this
    exact this.symm
theorem cost_shut (h : l.length = 0 ∨ n.stepOK l 0 = false) : n.cost l = 1152921504606846976 := by
  unfold NetD.cost
  rw [if_neg]
  intro hw
  rcases h with h | h
  · unfold NetD.walk at hw
    simp [h] at hw
  · have h0 : 0 < l.length := by
      unfold NetD.walk at hw
      simp at hw
      omega
    rw [(walk_of h0).1 hw 0 h0] at h
    cases h
end
/-- The row that was found, from its end. -/
inductive PathR (L : Nat → List It) (s : Nat) (C B : List Int) : Nat → List Nat → Prop
  | start : ctB B s = -1 → PathR L s C B s [s]
  | step {a b : Nat} {r : List Nat} {d : Int} : PathR L s C B a r → b ∉ r → (b, d) ∈ L a → ctL C b = addC (ctL C a) d → ctB B b = (a : Int) → PathR L s C B b (b :: r)
/-- As it is told. -/
def zL (r : List Nat) : List Int := r.map fun k : Nat => (k : Int)
theorem zL_length (r : List Nat) : (zL r).length = r.length := by simp [zL]
section
variable {L : Nat → List It} {n : NetD} {N s a b : Nat} {C B : List Int} {D r : List Nat}
theorem Chn.path : ∀ {D : List Nat}, Chn L s C B D → D.Nodup → ∀ b, b ∈ D → ∃ r, PathR L s C B b r ∧ ∀ x, x ∈ r → x ∈ D
  | [], _, _, b, hb => by cases hb
  | y :: D, ⟨h1, h2⟩, hn, b, hb => by
    obtain ⟨hy, hn2⟩ := List.nodup_cons.1 hn
    rcases List.mem_cons.1 hb with rfl | hb
    · rcases h1 with ⟨rfl, -, hB⟩ | ⟨-, a, ha, d, hd, hx, hB⟩
      · exact ⟨[b], .start hB, fun x hx => by simp at hx; simp [hx]⟩
      · obtain ⟨r, hr, hD⟩ := h2.path hn2 a ha
        exact ⟨b :: r, .step hr (fun hbr => hy (hD b hbr)) hd hx hB, fun x hx => by
          rcases List.mem_cons.1 hx with rfl | hx
          · simp
          · simp [hD x hx]⟩
    · obtain ⟨r, hr, hD⟩ := h2.path hn2 b hb
      exact ⟨r, hr, fun x hx => by simp [hD x hx]⟩
theorem DjOut.path (h : DjOut L N s C B) (hb : b < N) (hl : ctL C b < 1152921504606846976) : ∃ r, PathR L s C B b r := by
  obtain ⟨D, h1, h2, -, h4⟩ := h.way
  obtain ⟨r, hr, -⟩ := h1.path h2 b (h4 b hb hl)
  exact ⟨r, hr⟩
theorem PathR.head (h : PathR L s C B b r) : ∃ q, r = b :: q := by
  cases h with
  | start _ => exact ⟨_, rfl⟩
  | step _ _ _ _ _ => exact ⟨_, rfl⟩
theorem PathR.nodup (h : PathR L s C B b r) : r.Nodup := by
  induction h with
  | start _ => simp
  | step _ hb _ _ _ ih => exact List.nodup_cons.2 ⟨hb, ih⟩
theorem PathR.lt (h : PathR L s C B b r) (hL : StepsOK L N) (hs : s < N) : b < N ∧ ∀ x, x ∈ r → x < N := by
  induction h with
  | start _ => exact ⟨hs, fun x hx => by simp at hx; omega⟩
  | step _ _ hd _ _ ih =>
    have := (hL _ ih.1 _ hd).1
    refine ⟨this, fun x hx => ?_⟩
    rcases List.mem_cons.1 hx with rfl | hx
    · exact this
    · exact ih.2 x hx
theorem getD_snoc_lt {l : List Int} {x : Int} {i : Nat} (h : i < l.length) : (l ++ [x]).getD i 0 = l.getD i 0 := by
  simp [List.getD_eq_getElem?_getD, List.getElem?_append_left h]
theorem getD_snoc_at {l : List Int} {x : Int} : (l ++ [x]).getD l.length 0 = x := by
  simp [List.getD_eq_getElem?_getD]
theorem costTo_same {l : List Int} {x : Int} : n.costTo (l ++ [x]) l.length = n.costTo l l.length := by
  have := costTo_take (n := n) (l := l ++ [x]) (k := l.length) l.length (Nat.le_refl _)
  rw [List.take_left] at this
  exact this.symm
/-- It is a row from s to b that costs what was found. -/
theorem PathR.cost (h : PathR (onwL n) s C B b r) (h0 : ctL C s = 0) : (zL r.reverse).length = r.length ∧ 0 < r.length ∧ (zL r.reverse).getD 0 0 = (s : Int) ∧ (zL r.reverse).getD (r.length - 1) 0 = (b : Int) ∧ n.costTo (zL r.reverse) r.length = ctL C b := by
  induction h with
  | start _ => exact ⟨by simp [zL], by simp, by simp [zL], by simp [zL], by rw [h0]; rfl⟩
  | @step a b r d h hb hd hx hB ih =>
    obtain ⟨i1, i2, i3, i4, i5⟩ := ih
    have e : zL (b :: r).reverse = zL r.reverse ++ [(b : Int)] := by simp [zL]
    rw [e]
    obtain ⟨k, hk⟩ : ∃ k, r.length = k + 1 := ⟨r.length - 1, by omega⟩
    refine ⟨by simp [i1], by simp, ?_, ?_, ?_⟩
    · rw [getD_snoc_lt (by omega)]; exact i3
    · rw [List.length_cons, Nat.add_sub_cancel, ← i1]; exact getD_snoc_at
    · rw [List.length_cons, hk, costTo_snoc, ← hk]
      have e1 : n.costTo (zL r.reverse ++ [(b : Int)]) r.length = n.costTo (zL r.reverse) r.length := by
        have := costTo_same (n := n) (l := zL r.reverse) (x := (b : Int))
        rw [i1] at this
        exact this
      have e2 : (zL r.reverse ++ [(b : Int)]).getD k 0 = (a : Int) := by
        rw [getD_snoc_lt (by omega)]
        rw [hk, Nat.add_sub_cancel] at i4
        exact i4
      have e3 : (zL r.reverse ++ [(b : Int)]).getD (k + 1) 0 = (b : Int) := by
        rw [← hk, ← i1]; exact getD_snoc_at
      rw [hk] at e1 i5
      rw [hk, e1, i5, e2, e3, hx]
      obtain ⟨m1, -, m3⟩ := onw_mem.1 hd
      rw [ontoZ_at m1]
      simp only [] at m3
      rw [m3]
end

end Go.Proofs.YtgihaakgadmidaaGreat
