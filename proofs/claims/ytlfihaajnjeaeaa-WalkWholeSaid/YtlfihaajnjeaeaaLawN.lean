/-
  Contracts of nets, by their values alone.
-/
import Derived.Test.YtlfihaajnjeaeaaPNetD
import Derived.Test.YtlfihaajnjeaeaaPNetE
import Derived.Test.YtlfihaajnjeaeaaPNetF
import Derived.Test.YtlfihaajnjeaeaaRNetC
import Derived.Test.YtlfihaajnjeaeaaRNetF
import Derived.Test.YtlfihaajnjeaeaaRInts
import Derived.Test.YtlfihaajnjeaeaaLaw3T
import Derived.Test.YtlfihaajnjeaeaaKnown2
import Derived.Test.YtlfihaajnjeaeaaOwnT
namespace Go.Proofs.Ytlfihaajnjeaeaa
open Go.RowKit

theorem NetS.val {w : World} {n : NetD} {vq aq tq : Option Addr} {vc ac tc : Nat} (h : NetS w n vq aq tq vc ac tc) : NetV w (netVal n vq aq tq vc ac tc) n := ⟨_, _, _, rfl, h.v, h.a, h.t⟩
theorem NetV.s {w : World} {n : NetD} {vq aq tq : Option Addr} {vc ac tc : Nat} (h : NetV w (netVal n vq aq tq vc ac tc) n) : NetS w n vq aq tq vc ac tc := by
  obtain ⟨uv, ua, ut, e, h1, h2, h3⟩ := h
  simp at e
  obtain ⟨rfl, rfl, rfl⟩ := e
  exact ⟨h1, h2, h3⟩
/-- A small net. -/
structure NetFew (n : NetD) : Prop where
  v : n.v.length ≤ 80
  a : n.a.length ≤ 300
  t : n.t.length ≤ 80
  c : ∀ t ∈ n.t, t.2.2.length ≤ 300
theorem few_of {n : NetD} (h : fewN n = true) : NetFew n := by
  unfold fewN at h
  rw [Bool.and_eq_true] at h
  have h1 := of_decide_eq_true h.1
  exact ⟨h1.1, h1.2.1, h1.2.2, fun t ht => of_decide_eq_true (List.all_eq_true.1 h.2 t ht)⟩
theorem may_of {n : NetD} (h : mayN n = true) : NetFew n ∧ chkN n = fltOK ∧ NetGood n := by
  unfold mayN at h
  rw [Bool.and_eq_true] at h
  have h2 := of_decide_eq_true h.2
  refine ⟨few_of h.1, ?_, good_of h2⟩
  rcases chkN_is n with h3 | h3
  · exact h3
  · exact absurd h2 h3.2
theorem NetFew.small {n : NetD} (h : NetFew n) : NetSmall n := ⟨by have := h.v; omega, by have := h.a; omega, by have := h.t; omega⟩

section
variable {n m : NetD} {w : World} {v u : Value}
/-- The law's To: a bit more than a small net may hold. -/
theorem vto (h : NetV w v n) (hv : n.v.length ≤ 10000) (ha : n.a.length ≤ 100000) (ht : n.t.length ≤ 1000) (hc : ∀ t ∈ n.t, t.2.2.length ≤ 1000) :
    Calls Try.prog 23 #[v] w fun e w' => ∃ v, e = .returned v ∧ NetV w' v n ∧ Below w.heap.size w w' := by
  obtain ⟨vq, aq, tq, vc, ac, tc, rfl, hs⟩ := h.shape
  exact to3_any n vq aq tq vc ac tc w hs hv ha ht hc
theorem vtoF (h : NetV w v n) (hf : NetFew n) : Calls Try.prog 23 #[v] w fun e w' => ∃ v, e = .returned v ∧ NetV w' v n ∧ Below w.heap.size w w' :=
  vto h (by have := hf.v; omega) (by have := hf.a; omega) (by have := hf.t; omega) (fun t ht => by have := hf.c t ht; omega)
theorem vfew (h : NetV w v n) {B : Bool} (hB : fewN n = B) : Calls Try.prog 47 #[v] w fun e w' => e = .returned (.bool B) ∧ Below w.heap.size w w' := by
  obtain ⟨vq, aq, tq, vc, ac, tc, rfl, hs⟩ := h.shape
  rw [← hB]
  exact few_any n vq aq tq vc ac tc w hs
theorem vmay (h : NetV w v n) (hin : InNet n) {B : Bool} (hB : mayN n = B) : Calls Try.prog 21 #[v] w fun e w' => e = .returned (.bool B) ∧ Below w.heap.size w w' := by
  obtain ⟨vq, aq, tq, vc, ac, tc, rfl, hs⟩ := h.shape
  rw [← hB]
  exact may_any n vq aq tq vc ac tc w hs hin
theorem vcheck (h : NetV w v n) (hs : NetSmall n) (hin : InNet n) : Calls Try.prog 49 #[v] w (EPost (chkN n).1 (chkN n).2 w) := by
  obtain ⟨vq, aq, tq, vc, ac, tc, rfl, hq⟩ := h.shape
  exact ncheck_any n vq aq tq vc ac tc w hq hs hin
/-- Check, of a net of which it is known what is wrong with it. -/
theorem vcheckE (h : NetV w v n) (hs : NetSmall n) (hin : InNet n) {F : Flt} (hF : chkN n = F) : Calls Try.prog 49 #[v] w fun e w' => ∃ v, e = .returned v ∧ FaultV w' v F.1 F.2 ∧ Below w.heap.size w w' := by
  rw [← hF]
  exact vcheck h hs hin
theorem vcheck0 (h : NetV w v n) (hs : NetSmall n) (hin : InNet n) (hF : chkN n = fltOK) : Calls Try.prog 49 #[v] w fun e w' => e = .returned .nilIface ∧ Below w.heap.size w w' :=
  (vcheckE h hs hin hF).mono fun e w' ⟨v, h1, h2, h3⟩ => ⟨by rw [h1, h2.none0], h3⟩
theorem rvcheck (h : NetV w v n) (hin : InNet n) {F : Flt} (hF : chkN n = F) : Calls Try.prog 48 #[v] w (WPost F.1 F.2 w) := by
  obtain ⟨vq, aq, tq, vc, ac, tc, rfl, hq⟩ := h.shape
  rw [← hF]
  exact rchecknet_any n vq aq tq vc ac tc w hq hin
theorem rvturn (h : NetV w v n) (hg : NetGood n) {a b T : Int} (hT : n.turn a b = T) : Calls Try.prog 15 #[v, .int .i64 a, .int .i64 b] w fun e w' => e = .returned (.int .i64 T) ∧ Below w.heap.size w w' := by
  obtain ⟨vq, aq, tq, vc, ac, tc, rfl, hq⟩ := h.shape
  rw [← hT]
  exact rturn_any n vq aq tq vc ac tc a b w hq hg
theorem rvins (h : NetV w v n) (hg : NetGood n) (x : Int) {l : List Int} (hl : insL n.a x = l) : Calls Try.prog 42 #[v, .int .i64 x] w fun e w' => ∃ v, e = .returned v ∧ I64s w' v l ∧ Below w.heap.size w w' := by
  obtain ⟨vq, aq, tq, vc, ac, tc, rfl, hq⟩ := h.shape
  rw [← hl]
  exact rins_any n vq aq tq vc ac tc x w (by have := hg.sa; omega) hq
theorem rvouts (h : NetV w v n) (hg : NetGood n) (x : Int) {l : List Int} (hl : outsL n.a x = l) : Calls Try.prog 43 #[v, .int .i64 x] w fun e w' => ∃ v, e = .returned v ∧ I64s w' v l ∧ Below w.heap.size w w' := by
  obtain ⟨vq, aq, tq, vc, ac, tc, rfl, hq⟩ := h.shape
  rw [← hl]
  exact routs_any n vq aq tq vc ac tc x w (by have := hg.sa; omega) hq
theorem vsameI {l k : List Int} (h : I64s w v l) (h2 : I64s w u k) {B : Bool} (hB : decide (l = k) = B) : Calls Try.prog 18 #[v, u] w fun e w' => e = .returned (.bool B) ∧ Below w.heap.size w w' := by
  rw [← hB]
  exact sameints_any v u l k w h h2
end
theorem flt_or {n : NetD} : (chkN n).1 = [] ∧ (chkN n).2 = 0 ∨ 1 ≤ (chkN n).1.length ∧ (chkN n).1.length ≤ 2 ∧ ¬ (chkN n).2 = 0 := by
  have key : ∀ f : Flt, FltIs f → f.1.length ≤ 2 → f.1 = [] ∧ f.2 = 0 ∨ 1 ≤ f.1.length ∧ f.1.length ≤ 2 ∧ ¬ f.2 = 0 := fun f hf hl => by
    rcases hf with rfl | ⟨h1, h2⟩
    · exact Or.inl ⟨rfl, rfl⟩
    · exact Or.inr ⟨List.length_pos_iff.2 h1, hl, h2⟩
  refine key _ (chkN_is n) ?_
  have fb : ∀ {α : Type} (f : Int → α → Flt) (l : List α) (k : Int), (∀ k x, (f k x).1.length ≤ 2) → (firstBad f k l).1.length ≤ 2 := fun f l => by
    induction l with
    | nil => intro k _; simp [firstBad, fltOK]
    | cons x r ih =>
      intro k h
      unfold firstBad
      split
      · exact ih (k + 1) h
      · exact h k x
  unfold chkN
  repeat' split
  all_goals first | (simp; done) | skip
  · refine fb _ _ _ fun k x => ?_
    unfold typeFlt
    split
    · simp [fltOK]
    · unfold turnW; split <;> simp
  · refine fb _ _ _ fun k x => ?_
    unfold vertFlt
    repeat' split
    all_goals simp [fltOK]
  · refine fb _ _ _ fun k x => ?_
    unfold arcFlt
    repeat' split
    all_goals simp [fltOK]
  · refine fb _ _ _ fun k x => ?_
    unfold degFlt
    repeat' split
    all_goals simp [fltOK]

end Go.Proofs.Ytlfihaajnjeaeaa
