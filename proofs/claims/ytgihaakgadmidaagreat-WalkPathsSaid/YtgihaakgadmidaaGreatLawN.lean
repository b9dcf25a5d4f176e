/-
  Contracts of nets, by their values alone.
-/
import Derived.Test.YtgihaakgadmidaaGreatPNetD
import Derived.Test.YtgihaakgadmidaaGreatPNetE
import Derived.Test.YtgihaakgadmidaaGreatPNetF
import Derived.Test.YtgihaakgadmidaaGreatRNetC
import Derived.Test.YtgihaakgadmidaaGreatRNetF
import Derived.Test.YtgihaakgadmidaaGreatRInts
import Derived.Test.YtgihaakgadmidaaGreatLaw3T
import Derived.Test.YtgihaakgadmidaaGreatKnown2
import Derived.Test.YtgihaakgadmidaaGreatOwnT
namespace Go.Proofs.YtgihaakgadmidaaGreat
open Go.RowKit

theorem NetS.val {w : World} {n : NetD} {vq aq tq : Option Addr} {vc ac tc : Nat} (h : NetS w n vq aq tq vc ac tc) : NetV w (netVal n vq aq tq vc ac tc) n := ⟨_, _, _, rfl, h.v, h.a, h.t⟩
theorem NetV.s {w : World} {n : NetD} {vq aq tq : Option Addr} {vc ac tc : Nat} (h : NetV w (netVal n vq aq tq vc ac tc) n) : NetS w n vq aq tq vc ac tc := by
  obtain ⟨uv, ua, ut, e, h1, h2, h3⟩ := h
  simp at e
  obtain ⟨rfl, rfl, rfl⟩ := e
  exact ⟨h1, h2, h3⟩
/-- A small net. -/
structure NetFew (n : NetD) : Prop where
  v : n.v.length ≤ 80
  a : n.a.length ≤ 300
  t : n.t.length ≤ 80
  c : ∀ t ∈ n.t, t.2.2.length ≤ 300
theorem few_of {n : NetD} (h : fewN n = true) : NetFew n := by
  unfold fewN at h
  rw [Bool.and_eq_true] at h
  have h1 := of_decide_eq_true h.1
  exact ⟨h1.1, h1.2.1, h1.2.2, fun t ht => of_decide_eq_true (List.all_eq_true.1 h.2 t ht)⟩
theorem may_of {n : NetD} (h : mayN n = true) : NetFew n ∧ chkN n = fltOK ∧ NetGood n := by
  unfold mayN at h
  rw [Bool.and_eq_true] at h
  have h2 := of_decide_eq_true h.2
  refine ⟨few_of h.1, ?_, good_of h2⟩
  rcases chkN_is n with h3 | h3
  · exact h3
  · exact absurd h2 h3.2
theorem NetFew.small {n : NetD} (h : NetFew n) : NetSmall n := ⟨by have := h.v; omega, by have := h.a; omega, by have := h.t; omega⟩

section
variable {n m : NetD} {w : World} {v u : Value}
/-- The law's To: a bit more than a small net may hold. -/
theorem vto (h : NetV w v n) (hv : n.v.length ≤ 10000) (ha : n.a.length ≤ 100000) (ht : n.t.length ≤ 1000) (hc : ∀ t ∈ n.t, t.2.2.length ≤ 1000) :
    Calls Tryz.prog 25 #[v] w fun e w' => ∃ v, e = .returned v ∧ NetV w' v n ∧ Below w.heap.size w w' := by
  obtain ⟨vq, aq, tq, vc, ac, tc, rfl, hs⟩ := h.shape
  exact to3_any n vq aq tq vc ac tc w hs hv ha ht hc
theorem vtoF (h : NetV w v n) (hf : NetFew n) : Calls Tryz.prog 25 #[v] w fun e w' => ∃ v, e = .returned v ∧ NetV w' v n ∧ Below w.heap.size w w' :=
  vto h (by have := hf.v; omega) (by have := hf.a; omega) (by have := hf.t; omega) (fun t ht => by have := hf.c t ht; omega)
theorem vmay (h : NetV w v n) (hin : InNet n) {B : Bool} (hB : mayN n = B) : Calls Tryz.prog 23 #[v] w fun e w' => e = .returned (.bool B) ∧ Below w.heap.size w w' := by
  obtain ⟨vq, aq, tq, vc, ac, tc, rfl, hs⟩ := h.shape
  rw [← hB]
  exact may_any n vq aq tq vc ac tc w hs hin
theorem vcheck (h : NetV w v n) (hs : NetSmall n) (hin : InNet n) : Calls Tryz.prog 49 #[v] w (EPost (chkN n).1 (chkN n).2 w) := by
  obtain ⟨vq, aq, tq, vc, ac, tc, rfl, hq⟩ := h.shape
  exact ncheck_any n vq aq tq vc ac tc w hq hs hin
/-- Check, of a net of which it is known what is wrong with it. -/
theorem vcheckE (h : NetV w v n) (hs : NetSmall n) (hin : InNet n) {F : Flt} (hF : chkN n = F) : Calls Tryz.prog 49 #[v] w fun e w' => ∃ v, e = .returned v ∧ FaultV w' v F.1 F.2 ∧ Below w.heap.size w w' := by
  rw [← hF]
  exact vcheck h hs hin
theorem vcheck0 (h : NetV w v n) (hs : NetSmall n) (hin : InNet n) (hF : chkN n = fltOK) : Calls Tryz.prog 49 #[v] w fun e w' => e = .returned .nilIface ∧ Below w.heap.size w w' :=
  (vcheckE h hs hin hF).mono fun e w' ⟨v, h1, h2, h3⟩ => ⟨by rw [h1, h2.none0], h3⟩
theorem rvcost (h : NetV w v n) (hg : NetGood n) {l : List Int} (hu : I64s w u l) (hl : l.length ≤ 1000000) {C : Int} (hC : n.cost l = C) : Calls Tryz.prog 17 #[v, u] w fun e w' => e = .returned (.int .i64 C) ∧ Below w.heap.size w w' := by
  obtain ⟨vq, aq, tq, vc, ac, tc, rfl, hq⟩ := h.shape
  rw [← hC]
  exact rcost_any n vq aq tq vc ac tc u l w hq hg hu hl
theorem vsameI {l k : List Int} (h : I64s w v l) (h2 : I64s w u k) {B : Bool} (hB : decide (l = k) = B) : Calls Tryz.prog 21 #[v, u] w fun e w' => e = .returned (.bool B) ∧ Below w.heap.size w w' := by
  rw [← hB]
  exact sameints_any v u l k w h h2
end
end Go.Proofs.YtgihaakgadmidaaGreat
