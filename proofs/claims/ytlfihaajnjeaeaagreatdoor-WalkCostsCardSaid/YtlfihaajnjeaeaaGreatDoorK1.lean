/-
  Least walks: plain mathematics, no program stands here. h a b is what it costs to go on from a to b.
-/
import Derived.Test.YtlfihaajnjeaeaaGreatDoorA1
import Derived.Test.YtlfihaajnjeaeaaGreatDoorF1
namespace Go.Proofs.YtlfihaajnjeaeaaGreatDoor

theorem addC_held (a b : Int) : 0 ≤ addC a b ∧ addC a b ≤ 1152921504606846976 := ⟨addC_lo a b, addC_hi a b⟩
theorem hld_mono {a b : Int} (h : a ≤ b) : hld a ≤ hld b := by unfold hld; split <;> split <;> (try split) <;> (try split) <;> omega
theorem addC_mono {a a' b b' : Int} (h : a ≤ a') (k : b ≤ b') : addC a b ≤ addC a' b' := hld_mono (by have := hld_mono h; have := hld_mono k; omega)
/-- What a walk from s costs that ends at an arc. -/
inductive Att (h : Nat → Nat → Int) (N s : Nat) : Nat → Int → Prop
  | start : Att h N s s 0
  | step {a b : Nat} {x : Int} : Att h N s a x → b < N → Att h N s b (addC x (h a b))
/-- What a walk to t costs that begins at an arc. -/
inductive BAtt (h : Nat → Nat → Int) (N t : Nat) : Nat → Int → Prop
  | start : BAtt h N t t 0
  | step {a b : Nat} {x : Int} : BAtt h N t b x → a < N → BAtt h N t a (addC x (h a b))
section
variable {h h' : Nat → Nat → Int} {N s t a b m : Nat} {x y : Int}
theorem Att.held (k : Att h N s a x) : 0 ≤ x ∧ x ≤ 1152921504606846976 := by
  cases k with
  | start => omega
  | step _ _ => exact addC_held _ _
theorem BAtt.held (k : BAtt h N t a x) : 0 ≤ x ∧ x ≤ 1152921504606846976 := by
  cases k with
  | start => omega
  | step _ _ => exact addC_held _ _
theorem Att.lt (k : Att h N s a x) (hs : s < N) : a < N := by
  cases k with
  | start => exact hs
  | step _ hb => exact hb
theorem BAtt.lt (k : BAtt h N t a x) (ht : t < N) : a < N := by
  cases k with
  | start => exact ht
  | step _ ha => exact ha
/-- Two walks, one behind the other. -/
theorem Att.trans (k : Att h N s m x) (l : Att h N m t y) : Att h N s t (addC x y) := by
  induction l with
  | start =>
    have e : addC x 0 = x := by rw [addC_zero]; exact hld_in _ k.held.1 k.held.2
    rw [e]
    exact k
  | step _ hb ih =>
    rw [← addC_assoc]
    exact .step ih hb
theorem Att.one (hb : b < N) : Att h N a b (hld (h a b)) := by
  have e : addC 0 (h a b) = hld (h a b) := by rw [addC_comm, addC_zero]
  rw [← e]
  exact .step .start hb
theorem hld_addC (c d : Int) : addC (hld c) d = addC c d := by unfold addC; rw [hld_hld]
theorem BAtt.att (k : BAtt h N t a x) (ht : t < N) : Att h N a t x := by
  induction k with
  | start => exact .start
  | step k _ ih =>
    rw [addC_comm, ← hld_addC]
    exact (Att.one (k.lt ht)).trans ih
theorem BAtt.snoc (k : BAtt h N b a x) (hb : b < N) : BAtt h N t a (addC (hld (h b t)) x) := by
  induction k with
  | start =>
    have e : addC (hld (h b t)) 0 = addC 0 (h b t) := by rw [hld_addC, addC_comm]
    rw [e]
    exact .step .start hb
  | step _ ha ih =>
    rw [← addC_assoc]
    exact .step ih ha
theorem Att.batt (k : Att h N s t x) (hs : s < N) : BAtt h N t s x := by
  induction k with
  | start => exact .start
  | step k _ ih =>
    rw [addC_comm, ← hld_addC]
    exact ih.snoc (k.lt hs)
/-- d tells of each arc the least walk from s. -/
structure FromD (h : Nat → Nat → Int) (N s : Nat) (d : Nat → Int) : Prop where
  hi : ∀ b, b < N → d b ≤ 1152921504606846976
  start : d s ≤ 0
  att : ∀ b, b < N → d b < 1152921504606846976 → Att h N s b (d b)
  closed : ∀ a b, a < N → b < N → d b ≤ addC (d a) (h a b)
/-- d tells of each arc the least walk to t. -/
structure ToD (h : Nat → Nat → Int) (N t : Nat) (d : Nat → Int) : Prop where
  hi : ∀ b, b < N → d b ≤ 1152921504606846976
  start : d t ≤ 0
  att : ∀ b, b < N → d b < 1152921504606846976 → BAtt h N t b (d b)
  closed : ∀ a b, a < N → b < N → d a ≤ addC (d b) (h a b)
variable {d e : Nat → Int}
theorem FromD.le (f : FromD h N s d) (hs : s < N) (k : Att h N s b x) : d b ≤ x := by
  induction k with
  | start => exact f.start
  | step k hb ih => exact Int.le_trans (f.closed _ _ (k.lt hs) hb) (addC_mono ih (Int.le_refl _))
theorem ToD.le (f : ToD h N t d) (ht : t < N) (k : BAtt h N t a x) : d a ≤ x := by
  induction k with
  | start => exact f.start
  | step k ha ih => exact Int.le_trans (f.closed _ _ ha (k.lt ht)) (addC_mono ih (Int.le_refl _))
/-- There is but one such answer. -/
theorem FromD.uniq (f : FromD h N s d) (g : FromD h N s e) (hs : s < N) (hb : b < N) : d b = e b := by
  have key : ∀ {d e : Nat → Int}, FromD h N s d → FromD h N s e → d b ≤ e b := by
    intro d e f g
    by_cases hl : e b < 1152921504606846976
    · exact f.le hs (g.att b hb hl)
    · have := f.hi b hb
      omega
  exact Int.le_antisymm (key f g) (key g f)
theorem ToD.uniq (f : ToD h N t d) (g : ToD h N t e) (ht : t < N) (hb : b < N) : d b = e b := by
  have key : ∀ {d e : Nat → Int}, ToD h N t d → ToD h N t e → d b ≤ e b := by
    intro d e f g
    by_cases hl : e b < 1152921504606846976
    · exact f.le ht (g.att b hb hl)
    · have := f.hi b hb
      omega
  exact Int.le_antisymm (key f g) (key g f)
/-- It is the same, whichever end it is told from. -/
theorem FromD.meets (f : FromD h N s d) (g : ToD h N t e) (hs : s < N) (ht : t < N) : d t = e s := by
  refine Int.le_antisymm ?_ ?_
  · by_cases hl : e s < 1152921504606846976
    · exact f.le hs ((g.att s hs hl).att ht)
    · have := f.hi t ht
      omega
  · by_cases hl : d t < 1152921504606846976
    · exact g.le ht ((f.att t ht hl).batt hs)
    · have := g.hi s hs
      omega
theorem FromD.lo (f : FromD h N s d) (hb : b < N) : 0 ≤ d b := by
  by_cases hl : d b < 1152921504606846976
  · exact (f.att b hb hl).held.1
  · omega
theorem addC_infL (c : Int) : addC 1152921504606846976 c = 1152921504606846976 := by rw [addC_comm]; exact addC_inf c
end

end Go.Proofs.YtlfihaajnjeaeaaGreatDoor

/-
  The least of what walks cost: plain mathematics of going through from one arc to another one by arcs within; no program stands here.
-/
namespace Go.Proofs.YtlfihaajnjeaeaaGreatDoor

/-- b is the least that P says, or Inf. -/
structure LeastOf (P : Int → Prop) (b : Int) : Prop where
  hi : b ≤ 1152921504606846976
  att : b < 1152921504606846976 → P b
  le : ∀ x, P x → b ≤ x
theorem LeastOf.uniq {P : Int → Prop} {b c : Int} (h : LeastOf P b) (k : LeastOf P c) : b = c := by
  have key : ∀ {b c : Int}, LeastOf P b → LeastOf P c → b ≤ c := by
    intro b c h k
    by_cases hl : c < 1152921504606846976
    · exact h.le _ (k.att hl)
    · have := h.hi
      omega
  exact Int.le_antisymm (key h k) (key k h)
theorem LeastOf.lo {P : Int → Prop} {b : Int} (h : LeastOf P b) (hp : ∀ x, P x → 0 ≤ x) : 0 ≤ b := by
  by_cases hl : b < 1152921504606846976
  · exact hp _ (h.att hl)
  · omega
theorem FromD.least {h : Nat → Nat → Int} {N s b : Nat} {d : Nat → Int} (f : FromD h N s d) (hs : s < N) (hb : b < N) : LeastOf (Att h N s b) (d b) := ⟨f.hi b hb, f.att b hb, fun _ k => f.le hs k⟩
theorem ToD.least {h : Nat → Nat → Int} {N t b : Nat} {d : Nat → Int} (f : ToD h N t d) (ht : t < N) (hb : b < N) : LeastOf (BAtt h N t b) (d b) := ⟨f.hi b hb, f.att b hb, fun _ k => f.le ht k⟩
/-- What a row of arcs within costs, behind s, to its end. -/
inductive IAt (T : Nat → Nat → Int) (W : Nat → Int) (I : Nat → Bool) (N s : Nat) : Nat → Int → Prop
  | start {b : Nat} : b < N → I b = true → IAt T W I N s b (addC (T s b) (W b))
  | step {a b : Nat} {x : Int} : IAt T W I N s a x → b < N → I b = true → IAt T W I N s b (addC (addC x (T a b)) (W b))
/-- What going through from s to t costs. -/
inductive Ins (T : Nat → Nat → Int) (W : Nat → Int) (I : Nat → Bool) (N s t : Nat) : Int → Prop
  | one : Ins T W I N s t (hld (T s t))
  | more {a : Nat} {x : Int} : IAt T W I N s a x → Ins T W I N s t (addC x (T a t))
section
variable {T : Nat → Nat → Int} {W : Nat → Int} {I : Nat → Bool} {N s t a b : Nat} {x y z : Int}
theorem Ins.held (h : Ins T W I N s t x) : 0 ≤ x ∧ x ≤ 1152921504606846976 := by
  cases h with
  | one => exact ⟨hld_lo _, hld_hi _⟩
  | more _ => exact addC_held _ _
theorem hld_addC2 (a b : Int) : hld (addC a b) = addC a b := hld_in _ (addC_lo _ _) (addC_hi _ _)
theorem addC_zeroL (a b : Int) : addC 0 (addC a b) = addC a b := by rw [addC_comm, addC_zero, hld_addC2]
theorem IAt.att (h : IAt T W I N s a x) : Att (fun a b => addC (T a b) (W b)) N s a x := by
  induction h with
  | start hb _ =>
    rw [← addC_zeroL]
    exact .step .start hb
  | step _ hb _ ih =>
    rw [addC_assoc]
    exact .step ih hb
theorem Att.iat (hI : ∀ b, b < N → I b = true) (h : Att (fun a b => addC (T a b) (W b)) N s a x) : (a = s ∧ x = 0) ∨ IAt T W I N s a x := by
  induction h with
  | start => exact Or.inl ⟨rfl, rfl⟩
  | step _ hb ih =>
    right
    rcases ih with ⟨rfl, rfl⟩ | ih
    · rw [addC_zeroL]
      exact .start hb (hI _ hb)
    · rw [← addC_assoc]
      exact .step ih hb (hI _ hb)
theorem Ins.att (ht : t < N) (h : Ins T W I N s t y) : Att (fun a b => addC (T a b) (W b)) N s t (addC y (W t)) := by
  cases h with
  | one =>
    rw [hld_addC, ← addC_zeroL]
    exact .step .start ht
  | more h =>
    rw [addC_assoc]
    exact .step h.att ht
theorem Att.ins (hI : ∀ b, b < N → I b = true) (hst : s ≠ t) (h : Att (fun a b => addC (T a b) (W b)) N s t z) : ∃ y, Ins T W I N s t y ∧ z = addC y (W t) := by
  cases h with
  | start => exact absurd rfl hst
  | step h hb =>
    rcases h.iat hI with ⟨rfl, rfl⟩ | h
    · exact ⟨_, .one, by rw [hld_addC]; exact addC_zeroL _ _⟩
    · exact ⟨_, .more h, (addC_assoc _ _ _).symm⟩
/-- An answer that goes on till nothing is less any more. -/
theorem ins_of {d : Nat → Int} (hst : ∀ b, b < N → I b = true → d b ≤ addC (T s b) (W b)) (hcl : ∀ a b, a < N → b < N → I b = true → d b ≤ addC (addC (d a) (T a b)) (W b))
    (hx : x ≤ 1152921504606846976) (hxa : x < 1152921504606846976 → Ins T W I N s t x) (h1 : x ≤ hld (T s t)) (h2 : ∀ a, a < N → x ≤ addC (d a) (T a t)) : LeastOf (Ins T W I N s t) x := by
  have lt : ∀ {a y}, IAt T W I N s a y → a < N := by
    intro a y h
    cases h with
    | start h _ => exact h
    | step _ h _ => exact h
  have key : ∀ {a y}, IAt T W I N s a y → d a ≤ y := by
    intro a y h
    induction h with
    | start hb hi => exact hst _ hb hi
    | step h hb hi ih => exact Int.le_trans (hcl _ _ (lt h) hb hi) (addC_mono (addC_mono ih (Int.le_refl _)) (Int.le_refl _))
  refine ⟨hx, hxa, fun y hy => ?_⟩
  cases hy with
  | one => exact h1
  | more h => exact Int.le_trans (h2 _ (lt h)) (addC_mono (key h) (Int.le_refl _))
end

end Go.Proofs.YtlfihaajnjeaeaaGreatDoor

/-
  Rows of costs that are told arc by arc, till nothing is less any more: plain mathematics, no program stands here.
-/
namespace Go.Proofs.YtlfihaajnjeaeaaGreatDoor

/-- How far a row can still fall. -/
def potL : List Int → Nat
  | [] => 0
  | x :: r => x.toNat + potL r
theorem potL_set : ∀ (l : List Int) (b : Nat) (hb : b < l.length) (c : Int), 0 ≤ c → c < l[b] → potL (l.set b c) < potL l
  | x :: r, 0, _, c, h0, h1 => by
    simp only [List.getElem_cons_zero] at h1
    simp only [List.set_cons_zero, potL]
    omega
  | x :: r, b + 1, hb, c, h0, h1 => by
    simp only [List.getElem_cons_succ] at h1
    have := potL_set r b (by simpa using hb) c h0 h1
    simp only [List.set_cons_succ, potL]
    omega
/-- The i-th cost of a row. -/
def ctL (l : List Int) (i : Nat) : Int := l.getD i 1152921504606846976
theorem ctL_at {l : List Int} {i : Nat} (h : i < l.length) : ctL l i = l[i] := by simp [ctL, h]
theorem ctL_set (l : List Int) (b : Nat) (hb : b < l.length) (c : Int) (i : Nat) : ctL (l.set b c) i = if i = b then c else ctL l i := by
  unfold ctL
  by_cases e : i = b
  · subst e
    simp [hb]
  · rw [if_neg e]
    simp [List.getElem?_set_ne (Ne.symm e)]
/-- A row on the way: each cost is that of a walk. P b x: a walk to b costs x. -/
structure OnWay (P : Nat → Int → Prop) (N : Nat) (l : List Int) : Prop where
  len : l.length = N
  hi : ∀ b, b < N → ctL l b ≤ 1152921504606846976
  att : ∀ b, b < N → ctL l b < 1152921504606846976 → P b (ctL l b)
theorem OnWay.set {P : Nat → Int → Prop} {N : Nat} {l : List Int} (h : OnWay P N l) {b : Nat} (hb : b < N) {c : Int} (hc : c ≤ 1152921504606846976) (hp : P b c) : OnWay P N (l.set b c) := by
  have hbl : b < l.length := by rw [h.len]; exact hb
  refine ⟨by rw [List.length_set]; exact h.len, fun i hi => ?_, fun i hi hl => ?_⟩
  · rw [ctL_set l b hbl]
    split
    · exact hc
    · exact h.hi i hi
  · rw [ctL_set l b hbl] at hl ⊢
    split
    · next e => subst e; exact hp
    · next e => rw [if_neg e] at hl; exact h.att i hi hl
theorem OnWay.lo {P : Nat → Int → Prop} {N : Nat} {l : List Int} (h : OnWay P N l) (hP : ∀ b x, P b x → 0 ≤ x) {b : Nat} (hb : b < N) : 0 ≤ ctL l b := by
  by_cases hl : ctL l b < 1152921504606846976
  · exact hP _ _ (h.att b hb hl)
  · omega
theorem OnWay.from {h : Nat → Nat → Int} {N s : Nat} {l : List Int} (k : OnWay (Att h N s) N l) (hs : ctL l s ≤ 0) (hc : ∀ a b, a < N → b < N → ctL l b ≤ addC (ctL l a) (h a b)) : FromD h N s (ctL l) := ⟨k.hi, hs, k.att, hc⟩
theorem OnWay.to {h : Nat → Nat → Int} {N t : Nat} {l : List Int} (k : OnWay (BAtt h N t) N l) (ht : ctL l t ≤ 0) (hc : ∀ a b, a < N → b < N → ctL l a ≤ addC (ctL l b) (h a b)) : ToD h N t (ctL l) := ⟨k.hi, ht, k.att, hc⟩
/-- Two rows that both tell the least are one. -/
theorem from_rows {h : Nat → Nat → Int} {N s : Nat} {l m : List Int} (hs : s < N) (hl : l.length = N) (hm : m.length = N) (f : FromD h N s (ctL l)) (g : FromD h N s (ctL m)) : l = m := by
  refine List.ext_getElem (by omega) (fun i h1 h2 => ?_)
  have := f.uniq g hs (b := i) (by omega)
  rwa [ctL_at h1, ctL_at h2] at this
theorem to_rows {h : Nat → Nat → Int} {N t : Nat} {l m : List Int} (ht : t < N) (hl : l.length = N) (hm : m.length = N) (f : ToD h N t (ctL l)) (g : ToD h N t (ctL m)) : l = m := by
  refine List.ext_getElem (by omega) (fun i h1 h2 => ?_)
  have := f.uniq g ht (b := i) (by omega)
  rwa [ctL_at h1, ctL_at h2] at this

end Go.Proofs.YtlfihaajnjeaeaaGreatDoor

/-
  Looking for the least rows of arcs, the least first: plain mathematics, no program stands here.
-/
namespace Go.Proofs.YtlfihaajnjeaeaaGreatDoor
open HP

/-- What a row from s costs that ends at an arc; L a: what may be next behind a, and how much more it costs. -/
inductive LAt (L : Nat → List It) (s : Nat) : Nat → Int → Prop
  | start : LAt L s s 0
  | step {a : Nat} {y : It} {x : Int} : LAt L s a x → y ∈ L a → LAt L s y.1 (addC x y.2)
/-- The arc ahead. -/
def ctB (B : List Int) (i : Nat) : Int := B.getD i (-1)
theorem ctB_at {l : List Int} {i : Nat} (h : i < l.length) : ctB l i = l[i] := by simp [ctB, h]
theorem ctB_set (l : List Int) (b : Nat) (hb : b < l.length) (c : Int) (i : Nat) : ctB (l.set b c) i = if i = b then c else ctB l i := by
  unfold ctB
  by_cases e : i = b
  · subst e
    simp [hb]
  · rw [if_neg e]
    simp [List.getElem?_set_ne (Ne.symm e)]
/-- Where b is from: the beginning, or an arc of D. -/
def PreP (L : Nat → List It) (s : Nat) (C B : List Int) (D : List Nat) (b : Nat) (x : Int) : Prop :=
  (b = s ∧ x = 0 ∧ ctB B b = -1) ∨ (b ≠ s ∧ ∃ a, a ∈ D ∧ ∃ d, (b, d) ∈ L a ∧ x = addC (ctL C a) d ∧ ctB B b = (a : Int))
def Chn (L : Nat → List It) (s : Nat) (C B : List Int) : List Nat → Prop
  | [] => True
  | b :: D => PreP L s C B D b (ctL C b) ∧ Chn L s C B D
section
variable {L : Nat → List It} {N s : Nat} {C C' B B' : List Int} {D : List Nat} {m : Nat → Option Int} {E : Nat → It → Prop} {a b : Nat} {x c d : Int}
theorem PreP.congr {D' : List Nat} (h : PreP L s C B D b x) (hD : ∀ a, a ∈ D → a ∈ D') (hC : ∀ a, a ∈ D → ctL C a = ctL C' a) (hB : ctB B b = ctB B' b) : PreP L s C' B' D' b x := by
  rcases h with ⟨h1, h2, h3⟩ | ⟨h1, a, ha, d, h2, h3, h4⟩
  · exact Or.inl ⟨h1, h2, by rw [← hB]; exact h3⟩
  · exact Or.inr ⟨h1, a, hD a ha, d, h2, by rw [← hC a ha]; exact h3, by rw [← hB]; exact h4⟩
theorem Chn.congr : ∀ {D : List Nat}, Chn L s C B D → (∀ a, a ∈ D → ctL C a = ctL C' a) → (∀ a, a ∈ D → ctB B a = ctB B' a) → Chn L s C' B' D
  | [], _, _, _ => trivial
  | b :: D, ⟨h1, h2⟩, hC, hB => ⟨by rw [← hC b (by simp)]; exact h1.congr (fun _ h => h) (fun a ha => hC a (by simp [ha])) (hB b (by simp)), h2.congr (fun a ha => hC a (by simp [ha])) (fun a ha => hB a (by simp [ha]))⟩
theorem Chn.at : ∀ {D : List Nat}, Chn L s C B D → ∀ b, b ∈ D → PreP L s C B D b (ctL C b)
  | [], _, b, hb => by cases hb
  | y :: D, ⟨h1, h2⟩, b, hb => by
    rcases List.mem_cons.1 hb with rfl | hb
    · exact h1.congr (fun a ha => by simp [ha]) (fun _ _ => rfl) rfl
    · exact (h2.at b hb).congr (fun a ha => by simp [ha]) (fun _ _ => rfl) rfl
/-- What is next is arcs, and costs. -/
def StepsOK (L : Nat → List It) (N : Nat) : Prop := ∀ a, a < N → ∀ y, y ∈ L a → y.1 < N ∧ 0 ≤ y.2 ∧ y.2 ≤ 1152921504606846976
/-- On the way: D are out; of the rest m tells what is in; E: which steps have been looked at. -/
structure Dj (L : Nat → List It) (N s : Nat) (D : List Nat) (E : Nat → It → Prop) (C B : List Int) (m : Nat → Option Int) : Prop where
  cl : C.length = N
  bl : B.length = N
  dN : ∀ a, a ∈ D → a < N
  din : ∀ a, a ∈ D → 0 ≤ ctL C a ∧ ctL C a < 1152921504606846976
  dout : ∀ a, a < N → a ∉ D → ctL C a = 1152921504606846976
  nod : D.Nodup
  mon : ∀ a, a ∈ D → ∀ b x, m b = some x → ctL C a ≤ x
  att : ∀ a, a ∈ D → LAt L s a (ctL C a)
  hp : ∀ b x, m b = some x → b < N ∧ b ∉ D ∧ 0 ≤ x ∧ x < 1152921504606846976 ∧ PreP L s C B D b x
  chn : Chn L s C B D
  edom : ∀ a y, E a y → a ∈ D ∧ y ∈ L a
  fin : ∀ a y, E a y → y.1 ∈ D → ctL C y.1 ≤ addC (ctL C a) y.2
  opn : ∀ a y, E a y → y.1 ∉ D → (∃ x, m y.1 = some x ∧ x ≤ addC (ctL C a) y.2) ∨ addC (ctL C a) y.2 = 1152921504606846976
  srt : s ∈ D ∨ (D = [] ∧ m s = some 0 ∧ ∀ b, b ≠ s → m b = none)
theorem ctL_rep (N i : Nat) : ctL (List.replicate N 1152921504606846976) i = 1152921504606846976 := by
  unfold ctL
  by_cases h : i < N
  · simp [h]
  · simp [h]
theorem ctB_rep (N i : Nat) : ctB (List.replicate N (-1)) i = -1 := by
  unfold ctB
  by_cases h : i < N
  · simp [h]
  · simp [h]
theorem Dj.begin (hs : s < N) : Dj L N s [] (fun _ _ => False) (List.replicate N 1152921504606846976) (List.replicate N (-1)) (upd (fun _ => none) s (some 0)) where
  cl := by simp
  bl := by simp
  dN := fun a ha => by cases ha
  din := fun a ha => by cases ha
  dout := fun a _ _ => ctL_rep N a
  nod := List.nodup_nil
  mon := fun a ha => by cases ha
  att := fun a ha => by cases ha
  hp := fun b x h => by
    by_cases e : b = s
    · subst e
      rw [upd_at] at h
      injection h with h
      subst h
      exact ⟨hs, by simp, by omega, by omega, Or.inl ⟨rfl, rfl, ctB_rep N b⟩⟩
    · rw [upd_ne _ _ e] at h
      cases h
  chn := trivial
  edom := fun _ _ h => h.elim
  fin := fun _ _ h => h.elim
  opn := fun _ _ h => h.elim
  srt := Or.inr ⟨rfl, upd_at _ _ _, fun b hb => upd_ne _ _ hb⟩
theorem Dj.att_of (h : Dj L N s D E C B m) (k : PreP L s C B D b x) : LAt L s b x := by
  rcases k with ⟨rfl, rfl, -⟩ | ⟨-, a, ha, d, hd, rfl, -⟩
  · exact .start
  · exact LAt.step (y := (b, d)) (h.att a ha) hd
theorem Dj.pop (h : Dj L N s D E C B m) (hl : Lst m N (a, c)) : Dj L N s (a :: D) E (C.set a c) B (upd m a none) ∧ ∀ b, b ∈ a :: D → ctL (C.set a c) b ≤ ctL (C.set a c) a := by
  obtain ⟨hN, hm, hle⟩ := hl
  simp only [] at hN hm hle
  obtain ⟨-, haD, c0, c1, hpre⟩ := h.hp a c hm
  have hcl : a < C.length := by rw [h.cl]; exact hN
  have hca : ctL (C.set a c) a = c := by rw [ctL_set C a hcl, if_pos rfl]
  have hco : ∀ b, b ∈ D → ctL C b = ctL (C.set a c) b := fun b hb => by rw [ctL_set C a hcl, if_neg (fun e : b = a => haD (by rw [← e]; exact hb))]
  have hmo : ∀ b x, upd m a none b = some x → b ≠ a ∧ m b = some x := fun b x hb => by
    by_cases e : b = a
    · subst e; rw [upd_at] at hb; cases hb
    · rw [upd_ne _ _ e] at hb; exact ⟨e, hb⟩
  refine ⟨⟨by rw [List.length_set]; exact h.cl, h.bl, fun b hb => ?_, fun b hb => ?_, fun b hb hn => ?_, List.nodup_cons.2 ⟨haD, h.nod⟩, fun b hb k x hk => ?_, fun b hb => ?_, fun b x hb => ?_, ⟨?_, h.chn.congr hco (fun _ _ => rfl)⟩, fun b y he => ?_, fun b y he hy => ?_, fun b y he hy => ?_, ?_⟩, fun b hb => ?_⟩
  · rcases List.mem_cons.1 hb with rfl | hb
    · exact hN
    · exact h.dN b hb
  · rcases List.mem_cons.1 hb with rfl | hb
    · rw [hca]; exact ⟨c0, c1⟩
    · rw [← hco b hb]; exact h.din b hb
  · have hb2 : b ≠ a := fun e => hn (by simp [e])
    rw [ctL_set C a hcl, if_neg hb2]
    exact h.dout b hb (fun hd => hn (by simp [hd]))
  · obtain ⟨hka, hk2⟩ := hmo k x hk
    rcases List.mem_cons.1 hb with rfl | hb
    · rw [hca]
      have := hle k x (h.hp k x hk2).1 hk2
      unfold ahd at this
      simp only [] at this
      omega
    · rw [← hco b hb]; exact h.mon b hb k x hk2
  · rcases List.mem_cons.1 hb with rfl | hb
    · rw [hca]; exact h.att_of hpre
    · rw [← hco b hb]; exact h.att b hb
  · obtain ⟨hba, hb2⟩ := hmo b x hb
    obtain ⟨h1, h2, h3, h4, h5⟩ := h.hp b x hb2
    exact ⟨h1, fun e => (List.mem_cons.1 e).elim hba h2, h3, h4, h5.congr (fun a ha => by simp [ha]) hco rfl⟩
  · rw [hca]; exact hpre.congr (fun _ h => h) hco rfl
  · exact ⟨by simp [(h.edom b y he).1], (h.edom b y he).2⟩
  · rw [← hco b (h.edom b y he).1]
    by_cases e : y.1 = a
    · rw [e, hca]
      rcases h.opn b y he (by rw [e]; exact haD) with ⟨x, hx, hle⟩ | hi
      · rw [e, hm] at hx
        injection hx with hx
        omega
      · omega
    · have hy2 : y.1 ∈ D := (List.mem_cons.1 hy).elim (fun h => absurd h e) id
      rw [← hco _ hy2]
      exact h.fin b y he hy2
  · rw [← hco b (h.edom b y he).1]
    have e : y.1 ≠ a := fun e => hy (by simp [e])
    rw [upd_ne _ _ e]
    exact h.opn b y he (fun hd => hy (by simp [hd]))
  · rcases h.srt with hs | ⟨-, hs, ho⟩
    · exact Or.inl (by simp [hs])
    · refine Or.inl ?_
      by_cases e : a = s
      · simp [e]
      · rw [ho a e] at hm; cases hm
  · rw [hca]
    rcases List.mem_cons.1 hb with rfl | hb
    · rw [hca]; omega
    · rw [← hco b hb]; exact h.mon b hb a c hm
/-- A further step of a has been looked at. -/
def Eadd (E : Nat → It → Prop) (a : Nat) (y : It) : Nat → It → Prop := fun a' y' => E a' y' ∨ (a' = a ∧ y' = y)
theorem addC_up {u v : Int} (h0 : 0 ≤ u) (h1 : u ≤ 1152921504606846976) (h2 : 0 ≤ v) : u ≤ addC u v := by
  have e : addC u 0 = u := by rw [addC_zero]; exact hld_in _ h0 h1
  have := addC_mono (Int.le_refl u) h2
  rw [e] at this
  exact this
variable {y : It}
theorem Dj.inf (h : Dj L N s D E C B m) (ha : a ∈ D) (hy : y ∈ L a) (hi : addC (ctL C a) y.2 = 1152921504606846976) : Dj L N s D (Eadd E a y) C B m where
  cl := h.cl
  bl := h.bl
  dN := h.dN
  din := h.din
  dout := h.dout
  nod := h.nod
  mon := h.mon
  att := h.att
  hp := h.hp
  chn := h.chn
  edom := fun b z he => by
    rcases he with he | ⟨rfl, rfl⟩
    · exact h.edom b z he
    · exact ⟨ha, hy⟩
  fin := fun b z he hz => by
    rcases he with he | ⟨rfl, rfl⟩
    · exact h.fin b z he hz
    · have := (h.din _ hz).2
      omega
  opn := fun b z he hz => by
    rcases he with he | ⟨rfl, rfl⟩
    · exact h.opn b z he hz
    · exact Or.inr hi
  srt := h.srt
theorem Dj.out (h : Dj L N s D E C B m) (ha : a ∈ D) (hy : y ∈ L a) (hc : ∀ b, b ∈ D → ctL C b ≤ ctL C a) (h0 : 0 ≤ y.2) (hD : y.1 ∈ D) : Dj L N s D (Eadd E a y) C B m where
  cl := h.cl
  bl := h.bl
  dN := h.dN
  din := h.din
  dout := h.dout
  nod := h.nod
  mon := h.mon
  att := h.att
  hp := h.hp
  chn := h.chn
  edom := fun b z he => by
    rcases he with he | ⟨rfl, rfl⟩
    · exact h.edom b z he
    · exact ⟨ha, hy⟩
  fin := fun b z he hz => by
    rcases he with he | ⟨rfl, rfl⟩
    · exact h.fin b z he hz
    · have h1 := h.din b ha
      have h2 := hc z.1 hz
      have := addC_up h1.1 (by omega) h0
      omega
  opn := fun b z he hz => by
    rcases he with he | ⟨rfl, rfl⟩
    · exact h.opn b z he hz
    · exact absurd hD hz
  srt := h.srt
theorem Dj.high (h : Dj L N s D E C B m) (ha : a ∈ D) (hy : y ∈ L a) (hc : ∀ b, b ∈ D → ctL C b ≤ ctL C a) (h0 : 0 ≤ y.2) (hD : y.1 ∉ D) (hm : m y.1 = some x) (hx : x ≤ addC (ctL C a) y.2) : Dj L N s D (Eadd E a y) C B m where
  cl := h.cl
  bl := h.bl
  dN := h.dN
  din := h.din
  dout := h.dout
  nod := h.nod
  mon := h.mon
  att := h.att
  hp := h.hp
  chn := h.chn
  edom := fun b z he => by
    rcases he with he | ⟨rfl, rfl⟩
    · exact h.edom b z he
    · exact ⟨ha, hy⟩
  fin := fun b z he hz => by
    rcases he with he | ⟨rfl, rfl⟩
    · exact h.fin b z he hz
    · exact absurd hz hD
  opn := fun b z he hz => by
    rcases he with he | ⟨rfl, rfl⟩
    · exact h.opn b z he hz
    · exact Or.inl ⟨x, hm, hx⟩
  srt := h.srt
theorem Dj.put (h : Dj L N s D E C B m) (ha : a ∈ D) (hy : y ∈ L a) (hN : y.1 < N) (hc : ∀ b, b ∈ D → ctL C b ≤ ctL C a) (h0 : 0 ≤ y.2) (hi : addC (ctL C a) y.2 < 1152921504606846976) (hD : y.1 ∉ D) (hm : ∀ x, m y.1 = some x → addC (ctL C a) y.2 ≤ x) : Dj L N s D (Eadd E a y) C (B.set y.1 (a : Int)) (upd m y.1 (some (addC (ctL C a) y.2))) := by
  have hsD : s ∈ D := by
    rcases h.srt with hs | ⟨rfl, -, -⟩
    · exact hs
    · cases ha
  have hys : y.1 ≠ s := fun e => hD (by rw [e]; exact hsD)
  have hbl : y.1 < B.length := by rw [h.bl]; exact hN
  have hB : ∀ b, b ≠ y.1 → ctB B b = ctB (B.set y.1 (a : Int)) b := fun b hb => by rw [ctB_set B y.1 hbl, if_neg hb]
  have hBD : ∀ b, b ∈ D → ctB B b = ctB (B.set y.1 (a : Int)) b := fun b hb => hB b (fun e => hD (by rw [← e]; exact hb))
  have hge : ∀ b, b ∈ D → ctL C b ≤ addC (ctL C a) y.2 := fun b hb => by
    have h1 := h.din a ha
    have h2 := hc b hb
    have := addC_up h1.1 (by omega) h0
    omega
  refine ⟨h.cl, by rw [List.length_set]; exact h.bl, h.dN, h.din, h.dout, h.nod, fun b hb k x hk => ?_, h.att, fun b x hb => ?_, h.chn.congr (fun _ _ => rfl) hBD, fun b z he => ?_, fun b z he hz => ?_, fun b z he hz => ?_, Or.inl hsD⟩
  · by_cases e : k = y.1
    · subst e
      rw [upd_at] at hk
      injection hk with hk
      subst hk
      exact hge b hb
    · rw [upd_ne _ _ e] at hk
      exact h.mon b hb k x hk
  · by_cases e : b = y.1
    · subst e
      rw [upd_at] at hb
      injection hb with hb
      subst hb
      exact ⟨hN, hD, addC_lo _ _, hi, Or.inr ⟨hys, a, ha, y.2, hy, rfl, by rw [ctB_set B y.1 hbl, if_pos rfl]⟩⟩
    · rw [upd_ne _ _ e] at hb
      obtain ⟨h1, h2, h3, h4, h5⟩ := h.hp b x hb
      exact ⟨h1, h2, h3, h4, h5.congr (fun _ h => h) (fun _ _ => rfl) (hB b e)⟩
  · rcases he with he | ⟨rfl, rfl⟩
    · exact h.edom b z he
    · exact ⟨ha, hy⟩
  · rcases he with he | ⟨rfl, rfl⟩
    · exact h.fin b z he hz
    · exact absurd hz hD
  · rcases he with he | ⟨rfl, rfl⟩
    · by_cases e : z.1 = y.1
      · rcases h.opn b z he hz with ⟨x, hx, hle⟩ | hinf
        · refine Or.inl ⟨_, by rw [e, upd_at], ?_⟩
          have := hm x (by rw [← e]; exact hx)
          omega
        · exact Or.inr hinf
      · rw [upd_ne _ _ e]
        exact h.opn b z he hz
    · exact Or.inl ⟨_, upd_at _ _ _, Int.le_refl _⟩
theorem Dj.congrE {E' : Nat → It → Prop} (h : Dj L N s D E C B m) (hE : ∀ a y, E' a y → E a y) : Dj L N s D E' C B m :=
  ⟨h.cl, h.bl, h.dN, h.din, h.dout, h.nod, h.mon, h.att, h.hp, h.chn, fun a y e => h.edom a y (hE a y e), fun a y e => h.fin a y (hE a y e), fun a y e => h.opn a y (hE a y e), h.srt⟩
/-- What has been found. -/
structure DjOut (L : Nat → List It) (N s : Nat) (C B : List Int) : Prop where
  cl : C.length = N
  bl : B.length = N
  hi : ∀ b, b < N → 0 ≤ ctL C b ∧ ctL C b ≤ 1152921504606846976
  start : ctL C s = 0
  att : ∀ b, b < N → ctL C b < 1152921504606846976 → LAt L s b (ctL C b)
  closed : ∀ a, a < N → ∀ y, y ∈ L a → y.1 < N → ctL C y.1 ≤ addC (ctL C a) y.2
  way : ∃ D, Chn L s C B D ∧ D.Nodup ∧ (∀ a, a ∈ D → a < N ∧ ctL C a < 1152921504606846976) ∧ ∀ a, a < N → ctL C a < 1152921504606846976 → a ∈ D
theorem Dj.done (h : Dj L N s D (fun a y => a ∈ D ∧ y ∈ L a) C B m) (hm : ∀ k, k < N → m k = none) (hs : s < N) : DjOut L N s C B := by
  have hsD : s ∈ D := by
    rcases h.srt with hs | ⟨-, h2, -⟩
    · exact hs
    · rw [hm s hs] at h2; cases h2
  have hin : ∀ a, a < N → ctL C a < 1152921504606846976 → a ∈ D := fun a ha hl => by
    by_cases hd : a ∈ D
    · exact hd
    · have := h.dout a ha hd
      omega
  have hhi : ∀ b, b < N → 0 ≤ ctL C b ∧ ctL C b ≤ 1152921504606846976 := fun b hb => by
    by_cases hd : b ∈ D
    · have := h.din b hd
      omega
    · have := h.dout b hb hd
      omega
  refine ⟨h.cl, h.bl, hhi, ?_, fun b hb hl => h.att b (hin b hb hl), fun a ha y hy hyN => ?_, D, h.chn, h.nod, fun a ha => ⟨h.dN a ha, (h.din a ha).2⟩, hin⟩
  · rcases h.chn.at s hsD with ⟨-, hx, -⟩ | ⟨hn, -⟩
    · exact hx
    · exact absurd rfl hn
  · by_cases hd : a ∈ D
    · by_cases hy2 : y.1 ∈ D
      · exact h.fin a y ⟨hd, hy⟩ hy2
      · rcases h.opn a y ⟨hd, hy⟩ hy2 with ⟨x, hx, -⟩ | hi
        · rw [hm y.1 hyN] at hx; cases hx
        · rw [hi]; exact (hhi _ hyN).2
    · rw [h.dout a ha hd, addC_infL]
      exact (hhi _ hyN).2
theorem LAt.held (h : LAt L s a x) : 0 ≤ x ∧ x ≤ 1152921504606846976 := by
  cases h with
  | start => omega
  | step _ _ => exact addC_held _ _
/-- No row costs less than what was found. -/
theorem DjOut.le (h : DjOut L N s C B) (hL : StepsOK L N) (hs : s < N) (k : LAt L s b x) : b < N ∧ ctL C b ≤ x := by
  induction k with
  | start => exact ⟨hs, Int.le_of_eq h.start⟩
  | step k hy ih => exact ⟨(hL _ ih.1 _ hy).1, Int.le_trans (h.closed _ ih.1 _ hy (hL _ ih.1 _ hy).1) (addC_mono ih.2 (Int.le_refl _))⟩
end

end Go.Proofs.YtlfihaajnjeaeaaGreatDoor
