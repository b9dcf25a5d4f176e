/-
  Is it a flow, and of what value: the program's balance and value.
-/
import Derived.Test.YthfljimgpcignaaGreatDoorG13
import Derived.Test.YthfljimgpcignaaGreatDoorG10
import Derived.Laws.MakeOwn
import Derived.WalkSmall
import Derived.Test.YthfljimgpcignaaGreatDoorG12
namespace Go.Proofs.YthfljimgpcignaaGreatDoor
open Go.RowKit

/-- A row of one's own that is filled in place. -/
structure RowM (w : World) (g : Nat) (l : List Int) (wr : World) : Prop where
  k : Blk wr g (numI l) 3
  b : Below w.heap.size w wr
  lo : w.heap.size ≤ g
section
variable {w wr wr' : World} {b : Nat} {l : List Int}
theorem RowM.old (h : RowM w b l wr) (hb : Below wr.heap.size wr wr') : RowM w b l wr' := ⟨h.k.keep hb, bOn6 h.b hb, h.lo⟩
theorem RowM.set (h : RowM w b l wr) (i : Nat) (x : Int) : RowM w b (l.set i x) (wr.setCell ⟨b, i, none⟩ (.int .i64 x)) := by
  refine ⟨?_, h.b.setCell h.lo _, h.lo⟩
  have := h.k.set i (.int .i64 x)
  rwa [numI_set] at this
theorem RowM.at (h : RowM w b l wr) {i : Nat} (hi : i < l.length) : wr.cell? ⟨b, i, none⟩ = some (.int .i64 l[i]) ∧ wr.frozen? ⟨b, i, none⟩ = false ∧ b < wr.heap.size := ⟨h.k.cell i (numI_at hi), h.k.free i, h.k.lt⟩
end
/-- What balance answers. -/
def BalPost (w : World) (N : Nat) (E : Edg) (f : List Int) (e : Ending) (w' : World) : Prop :=
  (okTo E f E.length ∧ ∃ b, e = .returned (.tuple #[.slice (some ⟨b, 0, none⟩) N N, .bool true]) ∧ Blk w' b (numI (netRow N E f E.length)) 3 ∧ Below w.heap.size w w') ∨
    (¬ okTo E f E.length ∧ e = .returned (.tuple #[.slice none 0 0, .bool false]) ∧ Below w.heap.size w w')
def BalRel (w : World) (b N : Nat) (E : Edg) (f : List Int) (iv : Value) (wr : World) : Prop :=
  ∃ k : Nat, k ≤ E.length ∧ iv = .int .i64 k ∧ okTo E f k ∧ RowM w b (netRow N E f k) wr
section
variable {P : Nat → Prop} {w : World} {p N : Nat} {E : Edg} {A B : List Bool} {f : List Int} {ev sv dv fv : Value} {ab : Nat} {us : List Value}
end
end Go.Proofs.YthfljimgpcignaaGreatDoor

/-
  Is it a flow, and of what value: the program's value.
-/
namespace Go.Proofs.YthfljimgpcignaaGreatDoor
open Go.RowKit

/-- What value answers. -/
def ValPost (w : World) (N : Nat) (E : Edg) (A B : VSet) (f : List Int) (e : Ending) (w' : World) : Prop :=
  ∃ V b, e = .returned (.tuple #[.int .i64 V, .bool b]) ∧ (b = true ↔ IsFlow N E A B f) ∧ (b = true → V = valF N E A f) ∧ Below w.heap.size w w'
def ValRel (w : World) (N : Nat) (E : Edg) (A B : VSet) (f : List Int) (sv iv : Value) (wr : World) : Prop :=
  ∃ k : Nat, k ≤ N ∧ iv = .int .i64 k ∧ sv = .int .i64 (sumTo E f A k) ∧ evenTo E f A B k ∧ wr = w
theorem sumTo_succ (E : Edg) (f : List Int) (A : VSet) (k : Nat) : sumTo E f A (k + 1) = sumTo E f A k + (if A k = true then netF E f k else 0) := rfl
section
variable {P : Nat → Prop} {w : World} {p N : Nat} {E : Edg} {A B : List Bool} {f : List Int} {ev sv dv fv : Value} {ab : Nat} {us : List Value}
end
end Go.Proofs.YthfljimgpcignaaGreatDoor

/-
  Does a result prove what it tells: the program's Proves.
-/
namespace Go.Proofs.YthfljimgpcignaaGreatDoor
open Go.RowKit

/-- A result that proves what it tells. -/
structure PrvQ (N : Nat) (E : Edg) (S D : List Nat) (V : Int) (f : List Int) (near far : List Bool) : Prop where
  flow : IsFlow N E (setB (markL N S)) (setB (markL N D)) f
  val : V = valF N E (setB (markL N S)) f
  nl : near.length = N
  gl : far.length = N
  near : ∀ v, v < N → (setB near v = true ↔ Rch E f 1 (setB (markL N S)) v)
  far : ∀ v, v < N → (setB far v = false ↔ Rch E f (-1) (setB (markL N D)) v)
  none : ∀ v, v ∈ D → ¬ Rch E f 1 (setB (markL N S)) v
def PrvP (n : Int) (l : List (Int × Int)) (src dst : List Int) (V : Int) (f : List Int) (near far : List Bool) : Prop :=
  OkA n l src dst ∧ ¬ Twice src dst ∧ ∃ (N : Nat) (E : Edg) (S D : List Nat), n = N ∧ l = zE E ∧ src = zN S ∧ dst = zN D ∧ PrvQ N E S D V f near far
theorem zN_inj {S T : List Nat} (h : zN S = zN T) : S = T := by
  unfold zN at h
  exact (List.map_inj_right (fun a b e => by omega)).1 h
theorem zE_inj {E F : Edg} (h : zE E = zE F) : E = F := by
  unfold zE at h
  refine (List.map_inj_right (fun a b e => ?_)).1 h
  have := Prod.mk.inj e
  exact Prod.ext (by omega) (by omega)
theorem prvP_iff {N : Nat} {E : Edg} {S D : List Nat} {V : Int} {f : List Int} {near far : List Bool} (h : OkA N (zE E) (zN S) (zN D)) (ht : ¬ Twice (zN S) (zN D)) : PrvP N (zE E) (zN S) (zN D) V f near far ↔ PrvQ N E S D V f near far := by
  constructor
  · rintro ⟨-, -, N', E', S', D', hN, hE, hS, hD, h⟩
    obtain rfl : N = N' := by omega
    obtain rfl := zE_inj hE
    obtain rfl := zN_inj hS
    obtain rfl := zN_inj hD
    exact h
  · exact fun k => ⟨h, ht, N, E, S, D, rfl, rfl, rfl, rfl, k⟩
def PrvPost (w : World) (Q : Prop) (e : Ending) (w' : World) : Prop := ∃ b, e = .returned (.bool b) ∧ (b = true ↔ Q) ∧ Below w.heap.size w w'
theorem setB_ext {L M : List Bool} (h : L.length = M.length) (hv : ∀ v, v < L.length → (setB L v = true ↔ setB M v = true)) : L = M := by
  refine List.ext_getElem h fun i h1 h2 => ?_
  have := hv i h1
  rw [setB_at h1, setB_at h2] at this
  cases ha : L[i] <;> cases hb : M[i] <;> simp_all
section
variable {w : World} {n : Int} {l : List (Int × Int)} {src dst : List Int} {ev sv dv fv nv gv : Value} {V : Int} {f : List Int} {near far : List Bool}
end
end Go.Proofs.YthfljimgpcignaaGreatDoor
