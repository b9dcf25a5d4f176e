/-
  What came in: rows of bytes, of unsigned and of signed 64-bit numbers.
-/
import Derived.Test.YtjapdbegfanfiaaGreatDoorW8
import Derived.Test.YtjapdbegfanfiaaGreatDoorLift
import Derived.Test.YtjapdbegfanfiaaGreatDoorWireM
import Derived.Lib.SmallJoins
import Derived.Test.YtjapdbegfanfiaaGreatDoorB4
namespace Go.Proofs.YtjapdbegfanfiaaGreatDoor
open Go.ChangeShapes Go.WideShapes Go.ChangeAt Go.RowKit Go.Joins

/-- The value v is a row of 64-bit numbers of kind k, read in world w, in block x. -/
def NumsAt (k : IntKind) (w : World) (v : Value) (l : List Int) : Prop :=
  (l = [] ∧ ∃ p c, v = .slice p 0 c) ∨ (l.length ≤ 9223372036854775807 ∧ ∃ b o c, v = .slice (some ⟨b, o, none⟩) l.length c ∧ ∀ i (h : i < l.length), w.cell? ⟨b, o + i, none⟩ = some (.int k l[i]))
theorem NumsAt.shape {k : IntKind} {w : World} {v : Value} {l : List Int} (h : NumsAt k w v l) : ∃ q c, v = .slice q l.length c := by
  rcases h with ⟨rfl, p, c, rfl⟩ | ⟨_, b, o, c, rfl, _⟩
  · exact ⟨p, c, rfl⟩
  · exact ⟨_, c, rfl⟩
theorem NumsAt.below {k : IntKind} {w w' : World} {v : Value} {l : List Int} (h : NumsAt k w v l) (hb : Below w.heap.size w w') : NumsAt k w' v l := by
  rcases h with h | ⟨hl, b, o, c, rfl, hc⟩
  · exact Or.inl h
  · exact Or.inr ⟨hl, b, o, c, rfl, fun i hi => (hb.cell (World.block_lt_of_cell? w _ (hc i hi))).trans (hc i hi)⟩
theorem NumsAt.len {k : IntKind} {w : World} {v : Value} {l : List Int} (h : NumsAt k w v l) : l.length ≤ 9223372036854775807 := by
  rcases h with ⟨rfl, _⟩ | ⟨h, _⟩
  · simp
  · exact h
def InU64 (l : List Int) : Prop := ∀ x ∈ l, 0 ≤ x ∧ x ≤ 18446744073709551615
def InI64 (l : List Int) : Prop := ∀ x ∈ l, -9223372036854775808 ≤ x ∧ x ≤ 9223372036854775807
theorem wfq8 {a : Int} (h : (Lit.int .u8 a).wf = true) : 0 ≤ a ∧ a ≤ 255 := by
  simpa [Lit.wf, IntKind.min, IntKind.max, IntKind.signed, IntKind.bits] using h
theorem wfq16 {a : Int} (h : (Lit.int .u16 a).wf = true) : 0 ≤ a ∧ a ≤ 65535 := by
  simpa [Lit.wf, IntKind.min, IntKind.max, IntKind.signed, IntKind.bits] using h
theorem wfq64 {a : Int} (h : (Lit.int .u64 a).wf = true) : 0 ≤ a ∧ a ≤ 18446744073709551615 := by
  simpa [Lit.wf, IntKind.min, IntKind.max, IntKind.signed, IntKind.bits] using h
theorem wfi64 {a : Int} (h : (Lit.int .i64 a).wf = true) : -9223372036854775808 ≤ a ∧ a ≤ 9223372036854775807 := by
  simpa [Lit.wf, IntKind.min, IntKind.max, IntKind.signed, IntKind.bits] using h

set_option maxRecDepth 100000 in
theorem open_i64sq {H : Type} {enc : TypeId × Value → H} {W : World} {base : Nat} {v : Value} {d : DataW H} {p : List MemPlace} (hok : Value.okWide Tryz.prog W .any base 61 v) (h : DataW.Trod enc Tryz.prog W 0 (fun _ => true) true 61 v d p) :
    ∃ l, NumsAt .i64 W v l ∧ InI64 l := by
  obtain ⟨a, len, cap, rfl⟩ := okWide_slice Tryz.underlying61 hok
  obtain ⟨fuel, hf⟩ := h
  rcases open_ints Tryz.underlying61 Tryz.underlying2 (by kernel_rfl) hf with ⟨hcs, _⟩ | ⟨x, l, c, zs, hcs, _, hl, hm, hz, _, hcell, hwz⟩
  · simp [Value.cells] at hcs
    obtain ⟨rfl, rfl, rfl⟩ := hcs
    exact ⟨[], Or.inl ⟨rfl, _, _, rfl⟩, by intro x hx; cases hx⟩
  · simp [Value.cells] at hcs
    obtain ⟨rfl, rfl, rfl⟩ := hcs
    have hz' : zs.length = cap := by simpa using hz
    unfold maxLen at hm
    have hin : InI64 (zs.take len) := fun y hy => wfi64 (hwz y (List.mem_of_mem_take hy))
    have hlen : (zs.take len).length = len := by rw [List.length_take]; omega
    rcases Nat.eq_zero_or_pos len with h0 | h0
    · subst h0
      exact ⟨[], Or.inl ⟨rfl, _, _, rfl⟩, by intro x hx; cases hx⟩
    · have hs : x.spot = none := World.cell?_spot (hcell 0 (by omega))
      obtain ⟨xb, xo, xs⟩ := x
      have hs' : xs = none := hs
      subst hs'
      refine ⟨zs.take len, Or.inr ⟨by omega, xb, xo, cap, by rw [hlen], fun i hi => ?_⟩, hin⟩
      have := hcell i (by omega)
      rw [List.getElem_take]
      rw [List.getD_eq_getElem?_getD, List.getElem?_eq_getElem (by omega)] at this
      rcases Nat.eq_zero_or_pos i with rfl | h1
      · simpa [Addr.add] using this
      · have h2 : ¬ i = 0 := by omega
        simpa [Addr.add, h2] using this

set_option maxRecDepth 100000 in
theorem open_u8s {H : Type} {enc : TypeId × Value → H} {W : World} {base : Nat} {v : Value} {d : DataW H} {p : List MemPlace} (hok : Value.okWide Tryz.prog W .any base 22 v) (h : DataW.Trod enc Tryz.prog W 0 (fun _ => true) true 22 v d p) :
    ∃ l, U8s W v l ∧ In8 l := by
  obtain ⟨a, len, cap, rfl⟩ := okWide_slice Tryz.underlying22 hok
  obtain ⟨fuel, hf⟩ := h
  rcases open_ints Tryz.underlying22 Tryz.underlying5 (by kernel_rfl) hf with ⟨hcs, _⟩ | ⟨x, l, c, zs, hcs, _, hl, hm, hz, _, hcell, hwz⟩
  · simp [Value.cells] at hcs
    obtain ⟨rfl, rfl, rfl⟩ := hcs
    exact ⟨[], ⟨0, Or.inl ⟨rfl, _, _, rfl, fun h => by simp_all⟩⟩, by intro x hx; cases hx⟩
  · simp [Value.cells] at hcs
    obtain ⟨rfl, rfl, rfl⟩ := hcs
    have hz' : zs.length = cap := by simpa using hz
    unfold maxLen at hm
    have hin : In8 (zs.take len) := fun y hy => wfq8 (hwz y (List.mem_of_mem_take hy))
    have hlen : (zs.take len).length = len := by rw [List.length_take]; omega
    rcases Nat.eq_zero_or_pos len with h0 | h0
    · subst h0
      exact ⟨[], ⟨0, Or.inl ⟨rfl, _, _, rfl, fun h => by cases h⟩⟩, by intro x hx; cases hx⟩
    · have hs : x.spot = none := World.cell?_spot (hcell 0 (by omega))
      obtain ⟨xb, xo, xs⟩ := x
      have hs' : xs = none := hs
      subst hs'
      have hlt : xb < W.heap.size := World.block_lt_of_cell? W _ (hcell 0 (by omega))
      refine ⟨zs.take len, ⟨xb, Or.inr ⟨by omega, xo, cap, by omega, by omega, by rw [hlen], hlt, fun i hi => ?_⟩⟩, hin⟩
      have := hcell i (by omega)
      rw [List.getElem_take]
      rw [List.getD_eq_getElem?_getD, List.getElem?_eq_getElem (by omega)] at this
      rcases Nat.eq_zero_or_pos i with rfl | h1
      · simpa [Addr.add] using this
      · have h2 : ¬ i = 0 := by omega
        simpa [Addr.add, h2] using this

end Go.Proofs.YtjapdbegfanfiaaGreatDoor

/-
  Rows that came in, while Readers are read; a slice's own part.
-/
namespace Go.Proofs.YtjapdbegfanfiaaGreatDoor
open Go.RowKit

/-- A row of bytes that lies below block N. -/
def OldB (N : Nat) (w : World) (v : Value) (l : List Int) : Prop := ∃ x, U8at w v l x ∧ (l = [] ∨ x < N)
theorem OldB.of {w : World} {v : Value} {l : List Int} (h : U8s w v l) : OldB w.heap.size w v l := by
  obtain ⟨x, h⟩ := h
  rcases h with ⟨rfl, h2⟩ | ⟨h1, o, c, h2, h3, h4, h5, h6⟩
  · exact ⟨0, Or.inl ⟨rfl, h2⟩, Or.inl rfl⟩
  · exact ⟨x, Or.inr ⟨h1, o, c, h2, h3, h4, h5, h6⟩, Or.inr h5⟩
theorem OldB.s {N : Nat} {w : World} {v : Value} {l : List Int} (h : OldB N w v l) : U8s w v l := h.imp fun _ h => h.1
theorem OldB.below {N : Nat} {w w' : World} {v : Value} {l : List Int} (h : OldB N w v l) (hb : Below w.heap.size w w') : OldB N w' v l := by
  obtain ⟨x, h1, h2⟩ := h
  exact ⟨x, h1.below hb, h2⟩
theorem OldB.but {N b : Nat} {w w' : World} {v : Value} {l : List Int} (h : OldB N w v l) (hb : But b w w') (hN : N ≤ b) : OldB N w' v l := by
  obtain ⟨x, h1, rfl | h2⟩ := h
  · rcases h1 with ⟨_, h2⟩ | ⟨h1, o, c, h2, h3, h4, h5, h6⟩
    · exact ⟨x, Or.inl ⟨rfl, h2⟩, Or.inl rfl⟩
    · exact ⟨x, Or.inl ⟨rfl, _, c, h4, fun h => by cases h⟩, Or.inl rfl⟩
  · exact ⟨x, h1.but hb (by omega), Or.inr h2⟩
theorem OldB.take {N : Nat} {w : World} {q : Option Addr} {c n : Nat} {l : List Int} (h : OldB N w (.slice q n c) l) (k : Nat) (hk : k ≤ l.length) : U8s w (.slice q k c) (l.take k) := by
  obtain ⟨x, h1, -⟩ := h
  exact ⟨x, h1.take k hk⟩
theorem OldB.part {N : Nat} {w : World} {q : Option Addr} {c n : Nat} {l : List Int} (h : OldB N w (.slice q n c) l) (k m : Nat) (hk : k + m ≤ l.length) : U8s w (.slice (moved q c k) m (c - k)) ((l.drop k).take m) := by
  obtain ⟨x, h1, -⟩ := h
  exact ⟨x, (h1.drop k (by omega)).take m (by rw [List.length_drop]; omega)⟩
theorem OldB.cap {N : Nat} {w : World} {q : Option Addr} {c n : Nat} {l : List Int} (h : OldB N w (.slice q n c) l) : n = l.length ∧ l.length ≤ c := by
  obtain ⟨x, h1, -⟩ := h
  rcases h1 with ⟨rfl, p, c', e, -⟩ | ⟨_, o, c', h2, _, e, _, _⟩
  · injection e with e1 e2 e3
    exact ⟨e2, Nat.zero_le _⟩
  · injection e with e1 e2 e3
    exact ⟨e2, by omega⟩
/-- A row below N while memory grows above N alone. -/
theorem OldB.keep {N : Nat} {w w' : World} {v : Value} {l : List Int} (h : OldB N w v l) (hb : Below N w w') : OldB N w' v l := by
  obtain ⟨x, h1, h2⟩ := h
  rcases h1 with ⟨rfl, h3⟩ | ⟨h1, o, c, h3, h4, h5, h6, h7⟩
  · exact ⟨x, Or.inl ⟨rfl, h3⟩, Or.inl rfl⟩
  · rcases h2 with rfl | h2
    · exact ⟨x, Or.inl ⟨rfl, _, c, h5, fun h => by cases h⟩, Or.inl rfl⟩
    · refine ⟨x, Or.inr ⟨h1, o, c, h3, h4, h5, Nat.lt_of_lt_of_le h6 hb.size, fun i hi => ?_⟩, Or.inr h2⟩
      exact (hb.cell (p := ⟨x, o + i, none⟩) h2).trans (h7 i hi)

end Go.Proofs.YtjapdbegfanfiaaGreatDoor
