/-
  The law's own Few and May: is a net small, and may it be?
-/
import Derived.Test.YtgihaakgadmidaaGreatRNetE
namespace Go.Proofs.YtgihaakgadmidaaGreat
open Go.RowKit

def fewN (n : NetD) : Bool := decide (n.v.length ≤ 80 ∧ n.a.length ≤ 300 ∧ n.t.length ≤ 80) && n.t.all fun t => decide (t.2.2.length ≤ 300)

set_option maxHeartbeats 1000000 in
theorem few_v (n : NetD) (vq aq tq : Option Addr) (vc ac tc : Nat) (w : World) (h0 : 80 < n.v.length) : Calls Tryz.prog 47 #[netVal n vq aq tq vc ac tc] w fun e w' => e = .returned (.bool (fewN n)) ∧ Below w.heap.size w w' := by
  have HR : Hid (fewN n = false) := Lib.hid (by unfold fewN; rw [decide_eq_false (by omega), Bool.false_and])
  have d0 : decide ((80 : Int) < (n.v.length : Int)) = true := decide_eq_true (by omega)
  go_enter Tryz.func47, Tryz.ntmps47
  go_wp2
  go_ret
  exact ⟨ret_bool HR.out.symm, below_new _⟩

set_option maxHeartbeats 1000000 in
theorem few_a (n : NetD) (vq aq tq : Option Addr) (vc ac tc : Nat) (w : World) (h0 : ¬ 80 < n.v.length) (h1 : 300 < n.a.length) : Calls Tryz.prog 47 #[netVal n vq aq tq vc ac tc] w fun e w' => e = .returned (.bool (fewN n)) ∧ Below w.heap.size w w' := by
  have HR : Hid (fewN n = false) := Lib.hid (by unfold fewN; rw [decide_eq_false (by omega), Bool.false_and])
  have d0 : decide ((80 : Int) < (n.v.length : Int)) = false := decide_eq_false (by omega)
  have d1 : decide ((300 : Int) < (n.a.length : Int)) = true := decide_eq_true (by omega)
  go_enter Tryz.func47, Tryz.ntmps47
  go_wp2
  go_ret
  exact ⟨ret_bool HR.out.symm, below_new _⟩

set_option maxHeartbeats 1000000 in
theorem few_t (n : NetD) (vq aq tq : Option Addr) (vc ac tc : Nat) (w : World) (h0 : ¬ 80 < n.v.length) (h1 : ¬ 300 < n.a.length) (h2 : 80 < n.t.length) : Calls Tryz.prog 47 #[netVal n vq aq tq vc ac tc] w fun e w' => e = .returned (.bool (fewN n)) ∧ Below w.heap.size w w' := by
  have HR : Hid (fewN n = false) := Lib.hid (by unfold fewN; rw [decide_eq_false (by omega), Bool.false_and])
  have d0 : decide ((80 : Int) < (n.v.length : Int)) = false := decide_eq_false (by omega)
  have d1 : decide ((300 : Int) < (n.a.length : Int)) = false := decide_eq_false (by omega)
  have d2 : decide ((80 : Int) < (n.t.length : Int)) = true := decide_eq_true (by omega)
  go_enter Tryz.func47, Tryz.ntmps47
  go_wp2
  go_ret
  exact ⟨ret_bool HR.out.symm, below_new _⟩

set_option maxHeartbeats 2000000 in
set_option maxRecDepth 100000 in
theorem few_row (n : NetD) (vq aq tq : Option Addr) (vc ac tc : Nat) (w : World) (h : NetS w n vq aq tq vc ac tc) (h0 : ¬ 80 < n.v.length) (h1 : ¬ 300 < n.a.length) (h2 : ¬ 80 < n.t.length) : Calls Tryz.prog 47 #[netVal n vq aq tq vc ac tc] w fun e w' => e = .returned (.bool (fewN n)) ∧ Below w.heap.size w w' := by
  have HR : Hid (fewN n = n.t.all fun t => decide (t.2.2.length ≤ 300)) := Lib.hid (by unfold fewN; rw [decide_eq_true (by omega), Bool.true_and])
  have d0 : decide ((80 : Int) < (n.v.length : Int)) = false := decide_eq_false (by omega)
  have d1 : decide ((300 : Int) < (n.a.length : Int)) = false := decide_eq_false (by omega)
  have d2 : decide ((80 : Int) < (n.t.length : Int)) = false := decide_eq_false (by omega)
  have HS := Lib.hid h
  clear h h0 h1
  go_enter Tryz.func47, Tryz.ntmps47
  go_wp2
  obtain ⟨W0, hW0⟩ := named (w.alloc (.cells #[.slice vq n.v.length vc, .slice aq n.a.length ac, .slice tq n.t.length tc] 26))
  rw [← hW0]
  have B0 : Hid (Below w.heap.size w W0) := by rw [hW0]; exact Lib.hid (below_new _)
  have KN : Hid (Blk W0 w.heap.size #[.slice vq n.v.length vc, .slice aq n.a.length ac, .slice tq n.t.length tc] 26) := by rw [hW0]; exact Lib.hid (Blk.new _ _ _ _ rfl)
  have HS0 := Lib.hid (HS.out.below B0.out)
  clear hW0 HS d0 d1 d2
  obtain ⟨c0, c1, c2, -, -, -⟩ := KN.out.o3
  go_loop [3] (fun i => ∃ k : Nat, k ≤ n.t.length ∧ i = .int .i64 k ∧ Hid ((n.t.take k).all (fun t => decide (t.2.2.length ≤ 300)) = true)) (fun i => n.t.length - (intOf i).toNat)
  case atStart => exact ⟨0, Nat.zero_le _, rfl, Lib.hid rfl⟩
  case round =>
    obtain ⟨k, hk, rfl, HT⟩ := hrel
    by_cases hlt : k < n.t.length
    · have hli : (k : Int) < (n.t.length : Int) := by omega
      obtain ⟨tb, tz, tu, rfl, -, -, y2, yt⟩ := HS0.out.t.at hlt
      obtain ⟨A, eA⟩ : ∃ A, n.t[k] = A := ⟨_, rfl⟩
      rw [eA] at yt
      obtain ⟨uq, uc, rfl⟩ := yt.shape
      clear yt
      by_cases hA : A.2.2.length ≤ 300
      · have HN : Hid ((n.t.take (k + 1)).all (fun t => decide (t.2.2.length ≤ 300)) = true) := Lib.hid (by rw [take_snoc n.t k hlt, List.all_append, HT.out, eA]; simp [hA])
        have d3 : decide ((300 : Int) < (A.2.2.length : Int)) = false := decide_eq_false (by omega)
        clear eA
        go_wp2
        go_round
        case rel => exact ⟨k + 1, by omega, by go_num, HN⟩
        case measure => simp [intOf]; omega
      · have d3 : decide ((300 : Int) < (A.2.2.length : Int)) = true := decide_eq_true (by omega)
        have HF : Hid ((n.t.all fun t => decide (t.2.2.length ≤ 300)) = false) := Lib.hid (by
          cases hh : (n.t.all fun t => decide (t.2.2.length ≤ 300)) with
          | false => rfl
          | true =>
            have := List.all_eq_true.1 hh n.t[k] (List.getElem_mem _)
            rw [eA] at this
            exact absurd (of_decide_eq_true this) hA)
        clear eA
        go_wp2
        go_ret
        exact ⟨ret_bool (by rw [HR.out, HF.out]), B0.out⟩
    · have HF : Hid ((n.t.all fun t => decide (t.2.2.length ≤ 300)) = true) := Lib.hid (by have := HT.out; rwa [List.take_of_length_le (by omega)] at this)
      have hli : ¬ (k : Int) < (n.t.length : Int) := by omega
      go_wp2
      go_ret
      exact ⟨ret_bool (by rw [HR.out, HF.out]), B0.out⟩

theorem few_any (n : NetD) (vq aq tq : Option Addr) (vc ac tc : Nat) (w : World) (h : NetS w n vq aq tq vc ac tc) : Calls Tryz.prog 47 #[netVal n vq aq tq vc ac tc] w fun e w' => e = .returned (.bool (fewN n)) ∧ Below w.heap.size w w' := by
  by_cases h0 : 80 < n.v.length
  · exact few_v n vq aq tq vc ac tc w h0
  by_cases h1 : 300 < n.a.length
  · exact few_a n vq aq tq vc ac tc w h0 h1
  by_cases h2 : 80 < n.t.length
  · exact few_t n vq aq tq vc ac tc w h0 h1 h2
  · exact few_row n vq aq tq vc ac tc w h h0 h1 h2

/-- Is it small, and may it be? -/
def mayN (n : NetD) : Bool := fewN n && decide ((chkN n).2 = 0)
set_option maxHeartbeats 1000000 in
theorem may_any (n : NetD) (vq aq tq : Option Addr) (vc ac tc : Nat) (w : World) (h : NetS w n vq aq tq vc ac tc) (hin : InNet n) : Calls Tryz.prog 23 #[netVal n vq aq tq vc ac tc] w fun e w' => e = .returned (.bool (mayN n)) ∧ Below w.heap.size w w' := by
  have HS := Lib.hid h
  have HIN := Lib.hid hin
  clear h hin
  go_enter Tryz.func23, Tryz.ntmps23
  go_wp2_with fail
  obtain ⟨W0, hW0⟩ := named (w.alloc (.cells #[.slice vq n.v.length vc, .slice aq n.a.length ac, .slice tq n.t.length tc] 26))
  rw [← hW0]
  have B0 : Hid (Below w.heap.size w W0) := by rw [hW0]; exact Lib.hid (below_new _)
  have KN : Hid (Blk W0 w.heap.size #[.slice vq n.v.length vc, .slice aq n.a.length ac, .slice tq n.t.length tc] 26) := by rw [hW0]; exact Lib.hid (Blk.new _ _ _ _ rfl)
  have HS0 := Lib.hid (HS.out.below B0.out)
  clear hW0 HS
  refine (few_any n vq aq tq vc ac tc W0 HS0.out).mono ?_
  cases hf : fewN n with
  | false =>
    have HR : Hid (mayN n = false) := Lib.hid (by unfold mayN; rw [hf, Bool.false_and])
    clear hf
    rintro e w1 ⟨rfl, hb⟩
    have HB1 := Lib.hid (B0.out.trans (hb.mono B0.out.size))
    clear hb
    go_wp2_with fail
    go_ret
    exact ⟨ret_bool HR.out.symm, HB1.out⟩
  | true =>
    have HR : Hid (mayN n = decide ((chkN n).2 = 0)) := Lib.hid (by unfold mayN; rw [hf, Bool.true_and])
    clear hf
    rintro e w1 ⟨rfl, hb⟩
    have HB1 := Lib.hid (B0.out.trans (hb.mono B0.out.size))
    have HS1 := Lib.hid (HS0.out.below hb)
    obtain ⟨c0, c1, c2, -, -, -⟩ := (KN.out.keep hb).o3
    clear hb
    go_wp2_with fail
    refine (rchecknet_any n vq aq tq vc ac tc w1 HS1.out HIN.out).mono ?_
    obtain ⟨E, eE⟩ : ∃ E, (chkN n).2 = E := ⟨_, rfl⟩
    have HE := Lib.hid eE
    rw [HE.out] at HR
    rw [HE.out]
    clear eE
    rintro e w2 ⟨wv, rfl, hW, hb⟩
    obtain ⟨gq, gn, gc, rfl⟩ := hW.shape
    have hfe : ∀ w, (Instr.field 91 (.agg #[.slice gq gn gc, .int .i64 E]) 1).run Tryz.prog w = .ok (.int .i64 E) w := fun w => by kernel_rfl
    have HB2 := Lib.hid (HB1.out.trans (hb.mono HB1.out.size))
    clear hb hW c0 c1 c2
    by_cases h0 : E = 0
    · have e0 : (E == 0) = true := by simpa using h0
      have HR2 : Hid (mayN n = true) := Lib.hid (by rw [HR.out]; simpa using h0)
      clear h0
      go_wp2_with fail
      go_ret
      exact ⟨ret_bool HR2.out.symm, HB2.out⟩
    · have e0 : (E == 0) = false := by simpa using h0
      have HR2 : Hid (mayN n = false) := Lib.hid (by rw [HR.out]; simpa using h0)
      clear h0
      go_wp2_with fail
      go_ret
      exact ⟨ret_bool HR2.out.symm, HB2.out⟩

end Go.Proofs.YtgihaakgadmidaaGreat
