/-
  What Parse, Encode, Of answer, by values.
-/
import Derived.Test.YtjapdbegfanfiaaGreatDoorB17
import Derived.Test.YtjapdbegfanfiaaGreatDoorREA
import Derived.Test.YtjapdbegfanfiaaGreatDoorW6X
import Derived.Test.YtjapdbegfanfiaaGreatDoorLaw3O
import Derived.Test.YtjapdbegfanfiaaGreatDoorB4
namespace Go.Proofs.YtjapdbegfanfiaaGreatDoor
open Go.RowKit

theorem parse6_any (p0 : Option Addr) (c0 : Nat) (B : List Int) (w : World) (h : U8s w (.slice p0 B.length c0) B) (hin : In8 B) : Calls Tryz.prog 10 #[.slice p0 B.length c0] w (P6Post (parseF B) w) := by
  by_cases hl : 65536 < B.length
  · exact parse6_long p0 c0 B w h hl
  · by_cases hs : B.length < 8
    · exact parse6_short p0 c0 B w h hl hs
    · by_cases hsum : sumB (B.take (B.length - 4)) = B.drop (B.length - 4)
      · by_cases hm : B.take 4 = markL
        · exact parse6_main p0 c0 B w h hin hl hs hsum hm
        · exact parse6_form p0 c0 B w h hin hl hs hsum hm
      · exact parse6_sum p0 c0 B w h hin hl hs hsum
section
variable {w : World} {v u : Value} {B : List Int} {n : NetD}
theorem vParseV (h : U8s w u B) (hin : In8 B) {R : NetD × Flt} (hR : parseF B = R) : Calls Tryz.prog 9 #[u] w fun ev w' => ∃ nv er, ev = .returned (.tuple #[nv, er]) ∧ NetV w' nv R.1 ∧ FaultV w' er R.2.1 R.2.2 ∧ Below w.heap.size w w' := by
  obtain ⟨q, c, rfl⟩ := h.shape
  rw [← hR]
  exact vParse q c B w h hin
theorem rParseV (h : U8s w u B) (hin : In8 B) {R : NetD × Flt} (hR : parseF B = R) : Calls Tryz.prog 10 #[u] w fun ev w' => ∃ nv wv, ev = .returned (.tuple #[nv, wv]) ∧ NetV w' nv R.1 ∧ WrongV w' wv R.2.1 R.2.2 ∧ Below w.heap.size w w' := by
  obtain ⟨q, c, rfl⟩ := h.shape
  rw [← hR]
  exact parse6_any q c B w h hin
theorem vEncodeV (h : NetV w v n) (hin : InNet n) (hsm : NetSmall n) {R : List Int × Flt} (hR : encodeF n = R) : Calls Tryz.prog 14 #[v] w fun ev w' => ∃ v er, ev = .returned (.tuple #[v, er]) ∧ U8s w' v R.1 ∧ FaultV w' er R.2.1 R.2.2 ∧ Below w.heap.size w w' := by
  rw [← hR]
  exact vEncode h hin hsm
theorem rEncodeV (h : NetV w v n) (hin : InNet n) {R : List Int × Flt} (hR : encodeF n = R) : Calls Tryz.prog 17 #[v] w fun ev w' => ∃ v wv, ev = .returned (.tuple #[v, wv]) ∧ U8s w' v R.1 ∧ WrongV w' wv R.2.1 R.2.2 ∧ Below w.heap.size w w' := by
  rw [← hR]
  exact rEncode h hin
theorem vOf (h : NetV w v n) (hv : n.v.length ≤ 10000) (ha : n.a.length ≤ 100000) (ht : n.t.length ≤ 1000) (hc : ∀ t ∈ n.t, t.2.2.length ≤ 1000) :
    Calls Tryz.prog 13 #[v] w fun e w' => ∃ v, e = .returned v ∧ NetV w' v n ∧ Below w.heap.size w w' := by
  obtain ⟨vq, aq, tq, vc, ac, tc, rfl, hs⟩ := h.shape
  exact of3_any n vq aq tq vc ac tc w hs hv ha ht hc
end
/-- What Parse tells is small, and its error is none or one of a few parts. -/
theorem parse_small {B : List Int} (h8 : In8 B) : ((parseF B).1.v.length ≤ 4096 ∧ (parseF B).1.a.length ≤ 16384 ∧ (parseF B).1.t.length ≤ 256) ∧ (∀ t ∈ (parseF B).1.t, t.2.2.length ≤ 256) ∧ InNet (parseF B).1 := by
  have e0 : (emptyN.v.length ≤ 4096 ∧ emptyN.a.length ≤ 16384 ∧ emptyN.t.length ≤ 256) ∧ (∀ t ∈ emptyN.t, t.2.2.length ≤ 256) ∧ InNet emptyN :=
    ⟨⟨by decide, by decide, by decide⟩, fun t ht => by simp [emptyN] at ht, fun x hx => by simp [emptyN] at hx, fun x hx => by simp [emptyN] at hx, fun x hx => by simp [emptyN] at hx⟩
  have hL8 : In8 ((B.take (B.length - 4)).drop 4) := (h8.take _).drop _
  unfold parseF
  repeat' split
  all_goals first
    | exact e0
    | exact ⟨rdN_small hL8, rdN_costs hL8, rdN_in hL8⟩
theorem parse_flt (B : List Int) : (parseF B).2.1 = [] ∧ (parseF B).2.2 = 0 ∨ 1 ≤ (parseF B).2.1.length ∧ (parseF B).2.1.length ≤ 2 ∧ ¬ (parseF B).2.2 = 0 := by
  unfold parseF
  repeat' split
  all_goals first
    | exact Or.inl ⟨rfl, rfl⟩
    | exact flt_or
    | (refine Or.inr ⟨by simp, by simp, ?_⟩; assumption)
    | exact Or.inr ⟨by simp, by simp, by simp⟩
theorem encode_flt (n : NetD) : (encodeF n).2.1 = [] ∧ (encodeF n).2.2 = 0 ∨ 1 ≤ (encodeF n).2.1.length ∧ (encodeF n).2.1.length ≤ 2 ∧ ¬ (encodeF n).2.2 = 0 := by
  unfold encodeF
  repeat' split
  all_goals first
    | exact flt_or
    | exact Or.inl ⟨rfl, rfl⟩
    | exact Or.inr ⟨by simp, by simp, by simp⟩

end Go.Proofs.YtjapdbegfanfiaaGreatDoor
