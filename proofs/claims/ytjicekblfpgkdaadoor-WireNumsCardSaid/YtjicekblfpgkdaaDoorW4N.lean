/-
  Numbers that came in; bytes of numbers, one behind the other: told, read, cut off.
-/
import Derived.Test.YtjicekblfpgkdaaDoorW4B
import Derived.Test.YtjicekblfpgkdaaDoorStage
namespace Go.Proofs.YtjicekblfpgkdaaDoor
open Go.RowKit

theorem NumsAt.at {κ : IntKind} {w : World} {p : Option Addr} {n c : Nat} {l : List Int} (h : NumsAt κ w (.slice p n c) l) (k : Nat) (hk : k < l.length) :
    ∃ b o, p = some ⟨b, o, none⟩ ∧ ∀ w', Below w.heap.size w w' → w'.cell? ⟨b, o + k, none⟩ = some (.int κ l[k]) := by
  rcases h with ⟨rfl, _⟩ | ⟨_, b, o, c', e, hc⟩
  · simp at hk
  · injection e with e1 e2 e3
    exact ⟨b, o, e1, fun w' hb => (hb.cell (World.block_lt_of_cell? w _ (hc k hk))).trans (hc k hk)⟩

/-- A row of bytes of one's own, above N. -/
def OwnB (N : Nat) (w : World) (v : Value) (l : List Int) : Prop := w.ownsRow N 5 1 v l.length (l.map (Value.int .u8))
theorem OwnB.nil (N : Nat) (w : World) : OwnB N w (.slice none 0 0) [] := World.ownsRow_nil _ _ _ _
theorem OwnB.below {N : Nat} {w w' : World} {v : Value} {l : List Int} (h : OwnB N w v l) (hb : Below w.heap.size w w') : OwnB N w' v l :=
  ⟨h.1, h.2.imp id fun ⟨g, cap, cur, e1, hg, hh, r⟩ => ⟨g, cap, cur, e1, hg, (hb.block g (Array.getElem?_eq_some_iff.1 hh).1).trans hh, r⟩⟩
theorem OwnB.shape {N : Nat} {w : World} {v : Value} {l : List Int} (h : OwnB N w v l) : ∃ q c, v = .slice q l.length c := by
  rcases h.2 with ⟨e1, e2⟩ | ⟨g, cap, cur, e1, _⟩
  · subst e1
    exact ⟨none, 0, by rw [e2]⟩
  · exact ⟨_, _, e1⟩
theorem OwnB.u8s {N : Nat} {w : World} {v : Value} {l : List Int} (h : OwnB N w v l) (hl : l.length ≤ 9223372036854775807) : U8s w v l := by
  obtain ⟨x, h1, -⟩ := u8_of_owns h hl
  exact ⟨x, h1⟩
theorem OwnB.app {N : Nat} {w : World} {u v : Value} {l m r : List Int} (h : OwnB N w u l) (hN : N ≤ w.heap.size) (hv : U8s w v m) (hs : l.length + m.length ≤ 100000) (hr : l ++ m = r) :
    ∃ v' w', (Builtin.append_ #[26, 26] 26 #[u, v]).run Tryd.prog w = .ok v' w' ∧ OwnB N w' v' r ∧ Below N w w' := by
  subst hr
  exact app8 w N u v l m h hN hv hs

theorem encs_step (q : List Int) (i : Nat) (h : i < q.length) : encs (q.take i) ++ enc q[i] = encs (q.take (i + 1)) := by
  rw [List.take_succ_eq_append_getElem h, encs_snoc]
/-- A number that is read of its own bytes. -/
theorem uintR_encs {q : List Int} (hq : ∀ v ∈ q, 0 ≤ v ∧ v ≤ 18446744073709551615) {i : Nat} (h : i < q.length) {X M : Int} (hX : q[i] = X) (hM : X ≤ M) :
    uintR (encs q) (encs (q.take i)).length 0 M = (X, (encs (q.take (i + 1))).length, 0) := by
  subst hX
  unfold uintR
  rw [if_pos rfl, rd_encs hq h, if_pos rfl, if_neg (by show ¬ M < q[i]; omega), encs_next q i h]
theorem intR_encs {q : List Int} (hq : ∀ v ∈ q, 0 ≤ v ∧ v ≤ 18446744073709551615) {i : Nat} (h : i < q.length) {X : Int} (hX : q[i] = foldZ X) (h0 : -9223372036854775808 ≤ X) (h1 : X ≤ 9223372036854775807) :
    intR (encs q) (encs (q.take i)).length 0 9223372036854775808 = (X, (encs (q.take (i + 1))).length, 0) := by
  have ha : amtZ (foldZ X) ≤ 9223372036854775808 := (amtZ_in (foldZ_in h0 h1).1 (foldZ_in h0 h1).2).2
  unfold intR
  rw [if_pos rfl, rd_encs hq h, if_pos rfl, hX, if_neg (by show ¬ (9223372036854775808 : Int) < amtZ (foldZ X); omega), unfZ_foldZ, encs_next q i h, hX]
/-- Where a Reader over what was cut off at n stands behind i numbers. -/
def CutAt (q : List Int) (n i : Nat) (a : Nat) (e : Int) : Prop := (e = 0 ∧ a = (encs (q.take i)).length ∧ a ≤ n) ∨ e = 3
theorem CutAt.zero (q : List Int) (n : Nat) : CutAt q n 0 0 0 := Or.inl ⟨rfl, rfl, Nat.zero_le _⟩
theorem CutAt.step {q : List Int} (hq : ∀ v ∈ q, 0 ≤ v ∧ v ≤ 18446744073709551615) {n i a : Nat} {e : Int} (h : CutAt q n i a e) (hi : i < q.length) :
    CutAt q n (i + 1) (uintR ((encs q).take n) a e 18446744073709551615).2.1 (uintR ((encs q).take n) a e 18446744073709551615).2.2 := by
  rcases h with ⟨rfl, rfl, h2⟩ | rfl
  · unfold uintR
    rw [if_pos rfl]
    rcases rd_cuts hq hi h2 with ⟨h3, h4⟩ | h4
    · have h5 := hq _ (List.getElem_mem hi)
      rw [h4, if_pos rfl, if_neg (by show ¬ (18446744073709551615 : Int) < q[i]; omega)]
      exact Or.inl ⟨rfl, (encs_next q i hi).symm, by rw [← encs_next q i hi]; exact h3⟩
    · rw [if_neg (by rw [h4]; decide)]
      exact Or.inr h4
  · unfold uintR
    rw [if_neg (by decide)]
    exact Or.inr rfl
theorem CutAt.fin {q : List Int} {n a : Nat} {e : Int} (h : CutAt q n q.length a e) (hn : n < (encs q).length) : e = 3 := by
  rcases h with ⟨rfl, rfl, h2⟩ | rfl
  · rw [List.take_length] at h2
    omega
  · rfl

/-- All numbers, as they are told. -/
structure QOf (q l m : List Int) : Prop where
  inn : ∀ v ∈ q, 0 ≤ v ∧ v ≤ 18446744073709551615
  len : q.length = l.length + m.length
  fst : ∀ k (h : k < l.length) (h' : k < q.length), q[k] = l[k]
  snd : ∀ k (h : k < m.length) (h' : l.length + k < q.length), q[l.length + k] = foldZ m[k]
theorem QOf.of {l m : List Int} (hl : InU64 l) (hm : InI64 m) : QOf (l ++ m.map foldZ) l m := by
  refine ⟨fun v hv => ?_, by simp, fun k h h' => ?_, fun k h h' => ?_⟩
  · rcases List.mem_append.1 hv with h | h
    · exact hl v h
    · obtain ⟨x, hx, rfl⟩ := List.mem_map.1 h
      exact foldZ_in (hm x hx).1 (hm x hx).2
  · rw [List.getElem_append_left h]
  · rw [List.getElem_append_right (by omega)]
    simp
/-- While a number is read, in a region that draws its order: the Reader as it was, or as it will be. -/
structure ReadSt (j lo b N : Nat) (E : List Int) (a a' : Nat) (W0 : World) (bv : Value) (dn : Nat → Bool) (w : World) : Prop where
  old : dn j = false → RdV w lo b E a 0
  new : dn j = true → RdV w lo b E a' 0
  below : Below W0.heap.size W0 w
  row : OldB N w bv E
theorem ReadSt.step {j lo b N : Nat} {E : List Int} {a a' : Nat} {W0 : World} {bv : Value} {dn : Nat → Bool} {w : World} (h : ReadSt j lo b N E a a' W0 bv dn w) {i : Nat} (hi : j ≠ i) : ReadSt j lo b N E a a' W0 bv (done dn i) w := by
  have e : done dn i j = dn j := if_neg hi
  exact ⟨fun h1 => h.old (by rw [← e]; exact h1), fun h1 => h.new (by rw [← e]; exact h1), h.below, h.row⟩
theorem ReadSt.start {j lo b N : Nat} {E : List Int} {a a' : Nat} {W0 w : World} {bv : Value} (h : RdV w lo b E a 0) (hb : Below W0.heap.size W0 w) (hr : OldB N w bv E) : ReadSt j lo b N E a a' W0 bv (fun _ => false) w.drew :=
  ⟨fun _ => h.below (Below.refl _ _).drew, (fun h => by cases h), hb.drew, hr.below (Below.refl _ _).drew⟩
theorem ReadSt.call {j lo b N : Nat} {E : List Int} {a a' : Nat} {W0 : World} {bv : Value} {dn : Nat → Bool} {w w' : World} (h : ReadSt j lo b N E a a' W0 bv dn w) (hr : RdV w' lo b E a' 0) (hb : But b w w') (h0 : W0.heap.size ≤ b) (hN : N ≤ b) : ReadSt j lo b N E a a' W0 bv (done dn j) w' :=
  ⟨(fun h1 => by rw [show done dn j j = true from if_pos rfl] at h1; cases h1), (fun _ => hr), bOnB h.below hb h0, h.row.but hb hN⟩

end Go.Proofs.YtjicekblfpgkdaaDoor
