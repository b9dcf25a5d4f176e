/-
  Edges, marks and webs as they lie in memory.
-/
import Derived.Test.YthfljimgpcignaaGreatDoorG1
import Derived.Test.YthfljimgpcignaaGreatDoorG3
import Derived.Test.YthfljimgpcignaaGreatDoorG5
import Derived.IntWalk
namespace Go.Proofs.YthfljimgpcignaaGreatDoor
open Go.RowKit

theorem below_alloc1 {w : World} (a : Obj) : Below w.heap.size w (w.alloc a) := (Below.refl _ _).alloc (Nat.le_refl _) _
theorem bOn6 {w0 w w' : World} (h : Below w0.heap.size w0 w) (hb : Below w.heap.size w w') : Below w0.heap.size w0 w' := h.trans (hb.mono h.size)
/-- Where a slice's cells lie P holds. -/
def Av (P : Nat → Prop) (v : Value) : Prop := ∀ b o s n c, v = .slice (some ⟨b, o, s⟩) n c → 0 < n → P b
theorem Av.mono {P Q : Nat → Prop} {v : Value} (h : Av P v) (hq : ∀ b, P b → Q b) : Av Q v := fun b o s n c e h0 => hq b (h b o s n c e h0)
theorem Av.nil (P : Nat → Prop) (p : Option Addr) (c : Nat) : Av P (.slice p 0 c) := fun b o s n c e h0 => by injection e; omega
theorem Av.at {P : Nat → Prop} {b o n c : Nat} (h : P b) : Av P (.slice (some ⟨b, o, none⟩) n c) := fun b' o' s' n' c' e _ => by
  injection e with e1
  injection e1 with e1
  injection e1 with e1
  subst e1
  exact h

/-- The value v is a row of pairs of numbers. -/
def Prs (w : World) (v : Value) (l : List (Int × Int)) : Prop :=
  (l = [] ∧ ∃ p c, v = .slice p 0 c ∧ (p = none → c = 0)) ∨ (l.length ≤ 9223372036854775807 ∧ ∃ b o c, l.length ≤ c ∧ c ≤ 9223372036854775807 ∧ v = .slice (some ⟨b, o, none⟩) l.length c ∧
    ∀ i (h : i < l.length), w.cell? ⟨b, o + i * 2, none⟩ = some (.int .i64 l[i].1) ∧ w.cell? ⟨b, o + i * 2 + 1, none⟩ = some (.int .i64 l[i].2))
/-- All of them are 64-bit numbers. -/
def InPrs (l : List (Int × Int)) : Prop := ∀ x ∈ l, (-9223372036854775808 ≤ x.1 ∧ x.1 ≤ 9223372036854775807) ∧ (-9223372036854775808 ≤ x.2 ∧ x.2 ≤ 9223372036854775807)
section
variable {P : Nat → Prop} {w w' : World} {v : Value} {l : List (Int × Int)}
theorem Prs.shape (h : Prs w v l) : ∃ q c, v = .slice q l.length c := by
  rcases h with ⟨rfl, p, c, rfl, -⟩ | ⟨_, b, o, c, -, -, rfl, _⟩
  · exact ⟨p, c, rfl⟩
  · exact ⟨_, c, rfl⟩
theorem Prs.le (h : Prs w v l) : l.length ≤ 9223372036854775807 := by
  rcases h with ⟨rfl, _⟩ | ⟨h, _⟩
  · simp
  · exact h
theorem Prs.keep (h : Prs w v l) (ha : Av P v) (hk : Keep P w w') : Prs w' v l := by
  rcases h with h | ⟨hl, b, o, c, h1, h2, rfl, hc⟩
  · exact Or.inl h
  · refine Or.inr ⟨hl, b, o, c, h1, h2, rfl, fun i hi => ?_⟩
    have hp := ha b o none _ _ rfl (by omega)
    obtain ⟨x, y⟩ := hc i hi
    exact ⟨hk.cell x hp, hk.cell y hp⟩
theorem Prs.below (h : Prs w v l) (hb : Below w.heap.size w w') : Prs w' v l := h.keep (P := fun _ => True) (fun _ _ _ _ _ _ _ => trivial) (Keep.of hb)
theorem Prs.at {q : Option Addr} {n c : Nat} (h : Prs w (.slice q n c) l) {k : Nat} (hk : k < l.length) :
    ∃ b o, q = some ⟨b, o, none⟩ ∧ w.cell? ⟨b, o + k * 2, none⟩ = some (.int .i64 l[k].1) ∧ w.cell? ⟨b, o + k * 2 + 1, none⟩ = some (.int .i64 l[k].2) := by
  rcases h with ⟨rfl, _⟩ | ⟨_, b, o, c', _, _, e, hc⟩
  · simp at hk
  · injection e with e1
    exact ⟨b, o, e1, hc k hk⟩
theorem Prs.av (h : Prs w v l) : Av (fun b => b < w.heap.size) v := by
  rcases h with ⟨rfl, p, c, rfl, -⟩ | ⟨hl, b, o, c, h1, h2, rfl, hc⟩
  · exact Av.nil _ _ _
  · intro b' o' s' n' c' e h0
    injection e with e1 e2 e3
    injection e1 with e1
    injection e1 with e1
    subst e1
    exact World.block_lt_of_cell? w _ (hc 0 (by omega)).1
end

/-- The value v is a row of marks. -/
def Bools (w : World) (v : Value) (l : List Bool) : Prop :=
  (l = [] ∧ ∃ p c, v = .slice p 0 c ∧ (p = none → c = 0)) ∨ (l.length ≤ 9223372036854775807 ∧ ∃ b o c, l.length ≤ c ∧ c ≤ 9223372036854775807 ∧ v = .slice (some ⟨b, o, none⟩) l.length c ∧ ∀ i (h : i < l.length), w.cell? ⟨b, o + i, none⟩ = some (.bool l[i]))
section
variable {P : Nat → Prop} {w w' : World} {v : Value} {l : List Bool}
theorem Bools.shape (h : Bools w v l) : ∃ q c, v = .slice q l.length c := by
  rcases h with ⟨rfl, p, c, rfl, -⟩ | ⟨_, b, o, c, -, -, rfl, _⟩
  · exact ⟨p, c, rfl⟩
  · exact ⟨_, c, rfl⟩
theorem Bools.le (h : Bools w v l) : l.length ≤ 9223372036854775807 := by
  rcases h with ⟨rfl, _⟩ | ⟨h, _⟩
  · simp
  · exact h
theorem Bools.keep (h : Bools w v l) (ha : Av P v) (hk : Keep P w w') : Bools w' v l := by
  rcases h with h | ⟨hl, b, o, c, h1, h2, rfl, hc⟩
  · exact Or.inl h
  · exact Or.inr ⟨hl, b, o, c, h1, h2, rfl, fun i hi => hk.cell (hc i hi) (ha b o none _ _ rfl (by omega))⟩
theorem Bools.below (h : Bools w v l) (hb : Below w.heap.size w w') : Bools w' v l := h.keep (P := fun _ => True) (fun _ _ _ _ _ _ _ => trivial) (Keep.of hb)
theorem Bools.at {q : Option Addr} {n c : Nat} (h : Bools w (.slice q n c) l) {k : Nat} (hk : k < l.length) : ∃ b o, q = some ⟨b, o, none⟩ ∧ w.cell? ⟨b, o + k, none⟩ = some (.bool l[k]) := by
  rcases h with ⟨rfl, _⟩ | ⟨_, b, o, c', _, _, e, hc⟩
  · simp at hk
  · injection e with e1
    exact ⟨b, o, e1, hc k hk⟩
theorem Bools.av (h : Bools w v l) : Av (fun b => b < w.heap.size) v := by
  rcases h with ⟨rfl, p, c, rfl, -⟩ | ⟨hl, b, o, c, h1, h2, rfl, hc⟩
  · exact Av.nil _ _ _
  · intro b' o' s' n' c' e h0
    injection e with e1 e2 e3
    injection e1 with e1
    injection e1 with e1
    subst e1
    exact World.block_lt_of_cell? w _ (hc 0 (by omega))
end
section
variable {P : Nat → Prop} {w w' : World} {v : Value} {l : List Int}
theorem I64s.keep (h : I64s w v l) (ha : Av P v) (hk : Keep P w w') : I64s w' v l := by
  rcases h with h | ⟨hl, b, o, c, h1, h2, rfl, hc⟩
  · exact Or.inl h
  · exact Or.inr ⟨hl, b, o, c, h1, h2, rfl, fun i hi => hk.cell (hc i hi) (ha b o none _ _ rfl (by omega))⟩
theorem I64s.at {q : Option Addr} {n c : Nat} (h : I64s w (.slice q n c) l) {k : Nat} (hk : k < l.length) : ∃ b o, q = some ⟨b, o, none⟩ ∧ w.cell? ⟨b, o + k, none⟩ = some (.int .i64 l[k]) := by
  rcases h with ⟨rfl, _⟩ | ⟨_, b, o, c', _, _, e, hc⟩
  · simp at hk
  · injection e with e1
    exact ⟨b, o, e1, hc k hk⟩
theorem I64s.av (h : I64s w v l) : Av (fun b => b < w.heap.size) v := by
  rcases h with ⟨rfl, p, c, rfl, -⟩ | ⟨hl, b, o, c, h1, h2, rfl, hc⟩
  · exact Av.nil _ _ _
  · intro b' o' s' n' c' e h0
    injection e with e1 e2 e3
    injection e1 with e1
    injection e1 with e1
    subst e1
    exact World.block_lt_of_cell? w _ (hc 0 (by omega))
end

/-! ### a web -/
/-- Edges as they are told. -/
def zE (E : Edg) : List (Int × Int) := E.map fun e => ((e.1 : Int), (e.2 : Int))
theorem zE_len (E : Edg) : (zE E).length = E.length := by simp [zE]
theorem zE_at (E : Edg) (i : Nat) (h : i < (zE E).length) : (zE E)[i] = (((eL E i).1 : Int), ((eL E i).2 : Int)) := by
  have h2 : i < E.length := by rwa [zE_len] at h
  simp [zE, eL, h2]
/-- The edges that have an end at v, among the first k. -/
def atTo (E : Edg) : Nat → Nat → List Int
  | 0, _ => []
  | k + 1, v => (atTo E k v ++ (if (eL E k).1 = v then [(k : Int)] else [])) ++ (if (eL E k).2 = v then [(k : Int)] else [])
def atL (E : Edg) (v : Nat) : List Int := atTo E E.length v
theorem atTo_mem {E : Edg} {v : Nat} {x : Int} : ∀ {k : Nat}, x ∈ atTo E k v ↔ ∃ i, i < k ∧ x = (i : Int) ∧ ((eL E i).1 = v ∨ (eL E i).2 = v)
  | 0 => by simp [atTo]
  | k + 1 => by
    unfold atTo
    rw [List.mem_append, List.mem_append, atTo_mem]
    constructor
    · rintro ((⟨i, hi, rfl, h⟩ | h) | h)
      · exact ⟨i, by omega, rfl, h⟩
      · split at h
        · next e => exact ⟨k, by omega, by simpa using h, Or.inl e⟩
        · cases h
      · split at h
        · next e => exact ⟨k, by omega, by simpa using h, Or.inr e⟩
        · cases h
    · rintro ⟨i, hi, rfl, h⟩
      rcases Nat.lt_succ_iff_lt_or_eq.1 hi with hlt | rfl
      · exact Or.inl (Or.inl ⟨i, hlt, rfl, h⟩)
      · rcases h with h | h
        · exact Or.inl (Or.inr (by simp [h]))
        · exact Or.inr (by simp [h])
theorem atTo_len (E : Edg) (v : Nat) : ∀ k, (atTo E k v).length ≤ 2 * k
  | 0 => by simp [atTo]
  | k + 1 => by
    have := atTo_len E v k
    unfold atTo
    rw [List.length_append, List.length_append]
    split <;> split <;> simp <;> omega
/-- Where edge i leads from v, and which way. -/
def alongE (E : Edg) (i v : Nat) : Nat × Int := if v = (eL E i).1 then ((eL E i).2, 1) else ((eL E i).1, -1)

/-- The parts of a web at p that do not turn; P holds of all its blocks but the flow's. -/
structure WebS (P : Nat → Prop) (w : World) (p : Nat) (N : Nat) (E : Edg) (A B : List Bool) (ev sv dv fv : Value) (ab : Nat) (us : List Value) : Prop where
  k : Blk w p #[ev, .slice (some ⟨ab, 0, none⟩) N N, sv, dv, fv] 125
  p : P p
  e : Prs w ev (zE E)
  ea : Av P ev
  b : Blk w ab us.toArray 39
  bp : P ab
  ul : us.length = N
  u : ∀ (i : Nat) (u : Value), us[i]? = some u → I64s w u (atL E i) ∧ Av P u
  s : Bools w sv A
  sa : Av P sv
  d : Bools w dv B
  da : Av P dv
  al : A.length = N
  bl : B.length = N
  ein : EdgIn N E
  nn : N ≤ 4096
  en : E.length ≤ 16384
section
variable {P Q : Nat → Prop} {w w' : World} {p N : Nat} {E : Edg} {A B : List Bool} {ev sv dv fv : Value} {ab : Nat} {us : List Value}
theorem WebS.keep (h : WebS P w p N E A B ev sv dv fv ab us) (hk : Keep P w w') : WebS P w' p N E A B ev sv dv fv ab us :=
  ⟨hk.blk h.k h.p, h.p, h.e.keep h.ea hk, h.ea, hk.blk h.b h.bp, h.bp, h.ul, fun i u hu => ⟨(h.u i u hu).1.keep (h.u i u hu).2 hk, (h.u i u hu).2⟩, h.s.keep h.sa hk, h.sa, h.d.keep h.da hk, h.da, h.al, h.bl, h.ein, h.nn, h.en⟩
theorem WebS.old (h : WebS P w p N E A B ev sv dv fv ab us) (hb : Below w.heap.size w w') : WebS P w' p N E A B ev sv dv fv ab us := h.keep (Keep.of hb)
theorem WebS.mono (h : WebS P w p N E A B ev sv dv fv ab us) (hq : ∀ b, P b → Q b) : WebS Q w p N E A B ev sv dv fv ab us :=
  ⟨h.k, hq _ h.p, h.e, h.ea.mono hq, h.b, hq _ h.bp, h.ul, fun i u hu => ⟨(h.u i u hu).1, (h.u i u hu).2.mono hq⟩, h.s, h.sa.mono hq, h.d, h.da.mono hq, h.al, h.bl, h.ein, h.nn, h.en⟩
end
/-- A pointer to p. -/
abbrev pt (p : Nat) : Value := .pointer (some ⟨p, 0, none⟩)

end Go.Proofs.YthfljimgpcignaaGreatDoor
