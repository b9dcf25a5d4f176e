/-
  The law HeapEdges: whatever the size and the cost, it answers true, and nothing that was there has turned.
-/
import Derived.Test.YtmbeelakkiodaaaKnown7
import Derived.Test.YtmbeelakkiodaaaHpL
namespace Go.Proofs.Ytmbeelakkiodaaa
open Go.ChangeShapes Go.WideShapes Go.ChangeAt Go.RowKit

abbrev m0 : Nat → Option Int := fun _ => none
section
variable {N : Nat} {k c : Int}
def oneM (k c : Int) : Nat → Option Int := upd m0 k.toNat (some (hld c))
theorem e_put (h0 : 0 ≤ k) (h1 : k < N) : putB N m0 k c = true := by unfold putB; rw [if_neg (by omega)]
theorem e_putM (h0 : 0 ≤ k) (h1 : k < N) : putM N m0 k c = oneM k c := by unfold putM oneM; rw [e_put h0 h1, if_pos rfl]
theorem e_put2 (h0 : 0 ≤ k) (h1 : k < N) : putB N (oneM k c) k c = false := by unfold putB oneM; rw [if_neg (by omega), upd_at]; exact decide_eq_false (by omega)
theorem e_putM2 (h0 : 0 ≤ k) (h1 : k < N) : putM N (oneM k c) k c = oneM k c := putM_false (e_put2 h0 h1)
theorem e_cost (h0 : 0 ≤ k) (h1 : k < N) : costV N (oneM k c) k = (hld c, true) := by unfold costV oneM; rw [if_neg (by omega), upd_at]
theorem e_lst (h0 : 0 ≤ k) (h1 : k < N) : lst (oneM k c) N = some (k.toNat, hld c) := by
  refine lst_eq ⟨by show k.toNat < N; omega, upd_at _ _ _, fun j d hj hd => ?_⟩
  unfold oneM at hd
  by_cases e : j = k.toNat
  · subst e
    rw [upd_at] at hd
    injection hd with hd
    subst hd
    exact nahd_refl _
  · rw [upd_ne _ _ e] at hd; cases hd
theorem e_pop (h0 : 0 ≤ k) (h1 : k < N) : popV N (oneM k c) = (k, hld c, true) := by
  unfold popV
  rw [e_lst h0 h1]
  show ((k.toNat : Int), _, _) = _
  rw [Int.toNat_of_nonneg h0]
theorem e_popM (h0 : 0 ≤ k) (h1 : k < N) : popM N (oneM k c) = m0 := by
  unfold popM
  rw [e_lst h0 h1]
  show upd (upd m0 k.toNat _) k.toNat none = m0
  funext j
  unfold upd
  split <;> rfl
end

set_option maxHeartbeats 8000000 in
set_option maxRecDepth 100000 in
theorem edges_walk (n c : Int) (w : World) (n0 : -9223372036854775808 ≤ n) (n1 : n ≤ 9223372036854775807) (c0 : -9223372036854775808 ≤ c) (c1 : c ≤ 9223372036854775807) :
    Calls Try.prog 5 #[.int .i64 n, .int .i64 c] w fun e w' => e = .returned (.bool true) ∧ Below w.heap.size w w' := by
  obtain ⟨N, hN⟩ : ∃ N, keysN n = N := ⟨_, rfl⟩
  have h0 := hld_lo c
  have h1 := hld_hi c
  rcases (show n < 0 ∨ (¬ n < 0 ∧ 16384 < n) ∨ (¬ n < 0 ∧ n ≤ 16384) from by omega) with hc | ⟨hc, hd⟩ | ⟨hc, hd⟩
  · have hk : N = 0 := by rw [← hN]; exact if_pos hc
    have HN := Lib.hid hN
    have HK := Lib.hid hk
    clear hN hk
    go_enter Try.func5, Try.ntmps5
    go_wp2_with fail
    refine (known7 _).mono ?_
    rintro e w1 ⟨rfl, hb⟩
    have HB := Lib.hid hb
    clear hb
    go_wp2_with fail
    refine (h1new n w w1 HB.out n0 n1).mono ?_
    rintro e w2 ⟨p, rfl, h⟩
    rw [HN.out] at h
    have H := Lib.hid h
    clear h
    go_wp2_with fail
    refine (h1put H.out (-1) c (by decide) (by decide) c0 c1 (B := false) (m' := m0) (putB_out (by omega)) (putM_false (putB_out (by omega)))).mono ?_
    rintro e w3 ⟨rfl, h⟩
    clear H
    have H := Lib.hid h
    clear h
    go_wp2_with fail
    refine (h1put H.out (0) c (by omega) (by omega) c0 c1 (B := false) (m' := m0) (putB_out (by have := HK.out; omega)) (putM_false (putB_out (by have := HK.out; omega)))).mono ?_
    rintro e w4 ⟨rfl, h⟩
    clear H
    have H := Lib.hid h
    clear h
    go_wp2_with fail
    refine (h1put H.out (-9223372036854775808) c (by decide) (by decide) c0 c1 (B := false) (m' := m0) (putB_out (by omega)) (putM_false (putB_out (by omega)))).mono ?_
    rintro e w5 ⟨rfl, h⟩
    clear H
    have H := Lib.hid h
    clear h
    go_wp2_with fail
    refine (h1put H.out 9223372036854775807 c (by decide) (by decide) c0 c1 (B := false) (m' := m0) (putB_out (Or.inr (by have := keysN_le n; rw [HN.out] at this; omega))) (putM_false (putB_out (Or.inr (by have := keysN_le n; rw [HN.out] at this; omega))))).mono ?_
    rintro e w6 ⟨rfl, h⟩
    clear H
    have H := Lib.hid h
    clear h
    go_wp2_with fail
    refine (h1len H.out (n := 0) (cnt_none _)).mono ?_
    rintro e w7 ⟨rfl, rfl⟩
    go_wp2_with fail
    go_ret
    exact ⟨rfl, H.out.b⟩
  · have hk : N = 16384 := by rw [← hN]; unfold keysN; rw [if_neg hc, if_pos hd]
    have HN := Lib.hid hN
    have HK := Lib.hid hk
    clear hN hk
    go_enter Try.func5, Try.ntmps5
    go_wp2_with fail
    refine (known7 _).mono ?_
    rintro e w1 ⟨rfl, hb⟩
    have HB := Lib.hid hb
    clear hb
    go_wp2_with fail
    refine (h1new n w w1 HB.out n0 n1).mono ?_
    rintro e w2 ⟨p, rfl, h⟩
    rw [HN.out] at h
    have H := Lib.hid h
    clear h
    go_wp2_with fail
    refine (h1put H.out (-1) c (by decide) (by decide) c0 c1 (B := false) (m' := m0) (putB_out (by omega)) (putM_false (putB_out (by omega)))).mono ?_
    rintro e w3 ⟨rfl, h⟩
    clear H
    have H := Lib.hid h
    clear h
    go_wp2_with fail
    refine (h1put H.out (16384) c (by omega) (by omega) c0 c1 (B := false) (m' := m0) (putB_out (by have := HK.out; omega)) (putM_false (putB_out (by have := HK.out; omega)))).mono ?_
    rintro e w4 ⟨rfl, h⟩
    clear H
    have H := Lib.hid h
    clear h
    go_wp2_with fail
    refine (h1put H.out (-9223372036854775808) c (by decide) (by decide) c0 c1 (B := false) (m' := m0) (putB_out (by omega)) (putM_false (putB_out (by omega)))).mono ?_
    rintro e w5 ⟨rfl, h⟩
    clear H
    have H := Lib.hid h
    clear h
    go_wp2_with fail
    refine (h1put H.out 9223372036854775807 c (by decide) (by decide) c0 c1 (B := false) (m' := m0) (putB_out (Or.inr (by have := keysN_le n; rw [HN.out] at this; omega))) (putM_false (putB_out (Or.inr (by have := keysN_le n; rw [HN.out] at this; omega))))).mono ?_
    rintro e w6 ⟨rfl, h⟩
    clear H
    have H := Lib.hid h
    clear h
    go_wp2_with fail
    refine (h1len H.out (n := 0) (cnt_none _)).mono ?_
    rintro e w7 ⟨rfl, rfl⟩
    go_wp2_with fail
    refine (h1put H.out (16383) c (by omega) (by omega) c0 c1 (B := true) (m' := oneM (16383) c) (e_put (by omega) (by have := HK.out; omega)) (e_putM (by omega) (by have := HK.out; omega))).mono ?_
    rintro e w8 ⟨rfl, h⟩
    clear H
    have H := Lib.hid h
    clear h
    go_wp2_with fail
    refine (h1put H.out (16383) c (by omega) (by omega) c0 c1 (B := false) (m' := oneM (16383) c) (e_put2 (by omega) (by have := HK.out; omega)) (e_putM2 (by omega) (by have := HK.out; omega))).mono ?_
    rintro e w9 ⟨rfl, h⟩
    clear H
    have H := Lib.hid h
    clear h
    go_wp2_with fail
    refine (h1cost H.out (16383) (a := hld c) (o := true) (e_cost (by omega) (by have := HK.out; omega))).mono ?_
    rintro e w10 ⟨rfl, h⟩
    clear H
    have H := Lib.hid h
    clear h
    go_wp2_with fail
    refine (h1pop H.out (a := 16383) (b := hld c) (o := true) (m' := m0) (e_pop (by omega) (by have := HK.out; omega)) (e_popM (by omega) (by have := HK.out; omega))).mono ?_
    rintro e w11 ⟨rfl, h⟩
    clear H
    have H := Lib.hid h
    clear h
    go_wp2_with fail
    refine (rheld_any c _ c0 c1).mono ?_
    rintro e w12 ⟨rfl, rfl⟩
    go_wp2_with fail
    refine (h1put H.out (16383) 1152921504606846976 (by omega) (by omega) (by decide) (by decide) (B := true) (m' := oneM (16383) 1152921504606846976) (e_put (by omega) (by have := HK.out; omega)) (e_putM (by omega) (by have := HK.out; omega))).mono ?_
    rintro e w13 ⟨rfl, h⟩
    clear H
    have H := Lib.hid h
    clear h
    go_wp2_with fail
    go_ret
    exact ⟨rfl, H.out.b⟩
  · have hk : n = N := by rw [← hN]; unfold keysN; rw [if_neg hc, if_neg (by omega)]; omega
    have HN := Lib.hid hN
    have HK := Lib.hid hk
    clear hN hk
    go_enter Try.func5, Try.ntmps5
    go_wp2_with fail
    refine (known7 _).mono ?_
    rintro e w1 ⟨rfl, hb⟩
    have HB := Lib.hid hb
    clear hb
    go_wp2_with fail
    refine (h1new n w w1 HB.out n0 n1).mono ?_
    rintro e w2 ⟨p, rfl, h⟩
    rw [HN.out] at h
    have H := Lib.hid h
    clear h
    go_wp2_with fail
    refine (h1put H.out (-1) c (by decide) (by decide) c0 c1 (B := false) (m' := m0) (putB_out (by omega)) (putM_false (putB_out (by omega)))).mono ?_
    rintro e w3 ⟨rfl, h⟩
    clear H
    have H := Lib.hid h
    clear h
    go_wp2_with fail
    refine (h1put H.out (n) c (by omega) (by omega) c0 c1 (B := false) (m' := m0) (putB_out (by have := HK.out; omega)) (putM_false (putB_out (by have := HK.out; omega)))).mono ?_
    rintro e w4 ⟨rfl, h⟩
    clear H
    have H := Lib.hid h
    clear h
    go_wp2_with fail
    refine (h1put H.out (-9223372036854775808) c (by decide) (by decide) c0 c1 (B := false) (m' := m0) (putB_out (by omega)) (putM_false (putB_out (by omega)))).mono ?_
    rintro e w5 ⟨rfl, h⟩
    clear H
    have H := Lib.hid h
    clear h
    go_wp2_with fail
    refine (h1put H.out 9223372036854775807 c (by decide) (by decide) c0 c1 (B := false) (m' := m0) (putB_out (Or.inr (by have := keysN_le n; rw [HN.out] at this; omega))) (putM_false (putB_out (Or.inr (by have := keysN_le n; rw [HN.out] at this; omega))))).mono ?_
    rintro e w6 ⟨rfl, h⟩
    clear H
    have H := Lib.hid h
    clear h
    go_wp2_with fail
    refine (h1len H.out (n := 0) (cnt_none _)).mono ?_
    rintro e w7 ⟨rfl, rfl⟩
    by_cases hn0 : n = 0
    · have hnb : (n == 0) = true := by simpa using hn0
      clear hn0
      go_wp2_with fail
      go_ret
      exact ⟨rfl, H.out.b⟩
    · have hnb : (n == 0) = false := by simpa using hn0
      have hpos : 1 ≤ n := by omega
      clear hn0
      go_wp2_with fail
      refine (h1put H.out (n - 1) c (by omega) (by omega) c0 c1 (B := true) (m' := oneM (n - 1) c) (e_put (by omega) (by have := HK.out; omega)) (e_putM (by omega) (by have := HK.out; omega))).mono ?_
      rintro e w8 ⟨rfl, h⟩
      clear H
      have H := Lib.hid h
      clear h
      go_wp2_with fail
      refine (h1put H.out (n - 1) c (by omega) (by omega) c0 c1 (B := false) (m' := oneM (n - 1) c) (e_put2 (by omega) (by have := HK.out; omega)) (e_putM2 (by omega) (by have := HK.out; omega))).mono ?_
      rintro e w9 ⟨rfl, h⟩
      clear H
      have H := Lib.hid h
      clear h
      go_wp2_with fail
      refine (h1cost H.out (n - 1) (a := hld c) (o := true) (e_cost (by omega) (by have := HK.out; omega))).mono ?_
      rintro e w10 ⟨rfl, h⟩
      clear H
      have H := Lib.hid h
      clear h
      go_wp2_with fail
      refine (h1pop H.out (a := n - 1) (b := hld c) (o := true) (m' := m0) (e_pop (by omega) (by have := HK.out; omega)) (e_popM (by omega) (by have := HK.out; omega))).mono ?_
      rintro e w11 ⟨rfl, h⟩
      clear H
      have H := Lib.hid h
      clear h
      go_wp2_with fail
      refine (rheld_any c _ c0 c1).mono ?_
      rintro e w12 ⟨rfl, rfl⟩
      go_wp2_with fail
      refine (h1put H.out (n - 1) 1152921504606846976 (by omega) (by omega) (by decide) (by decide) (B := true) (m' := oneM (n - 1) 1152921504606846976) (e_put (by omega) (by have := HK.out; omega)) (e_putM (by omega) (by have := HK.out; omega))).mono ?_
      rintro e w13 ⟨rfl, h⟩
      clear H
      have H := Lib.hid h
      clear h
      go_wp2_with fail
      go_ret
      exact ⟨rfl, H.out.b⟩

set_option maxRecDepth 100000 in
theorem heapEdges_walks : WalksP 5 Try.f5 := by
  intro H enc W args ds g
  obtain ⟨ps, hA⟩ := g.reads
  obtain ⟨base, hval⟩ := g.okay
  rw [Try.params5] at hA hval
  obtain ⟨v0, vs0, d0, ds0, p0, q0, hargs, rfl, rfl, h0, r0⟩ := trodAll_cons hA
  obtain ⟨v1, vs1, d1, ds1, p1, q1, rfl, rfl, rfl, h1, r1⟩ := trodAll_cons r0
  obtain ⟨rfl, rfl, rfl⟩ := trodAll_nil r1
  obtain rfl : args = #[v0, v1] := Array.toList_inj.1 hargs
  obtain ⟨x0, rfl, rfl, rfl, w0⟩ := open_int Try.underlying3 (hval 0 3 v0 rfl rfl) h0
  obtain ⟨x1, rfl, rfl, rfl, w1⟩ := open_int Try.underlying2 (hval 1 2 v1 rfl rfl) h1
  exact edges_walk x0 x1 W (wf64 w0).1 (wf64 w0).2 (wf64 w1).1 (wf64 w1).2

theorem heapEdges_row : Rows.HeapEdgesSaid :=
  OpenClaim.holds_of_wide 5 Try.f5 rfl rfl rfl rfl rfl rfl rfl ⟨rfl, rfl, rfl, rfl, rfl⟩ rfl rfl rfl rfl rfl (by kernel_rfl) Try.func5 (by kernel_rfl)
    (of_decide_eq_true (by kernel_rfl)) (by unfold Func.isWrapper; rw [if_neg (of_decide_eq_false (by kernel_rfl))]; exact ⟨rfl, rfl⟩)
    (fun os started H enc _ => law_plain (s := Rows.heapEdgesSpec) Try.func5 (by kernel_rfl) rfl (by kernel_rfl)
      (fun H ds hl => by
        rw [Try.params5] at hl
        match ds, hl with
        | [_, _], _ => exact ⟨rfl, rfl, rfl⟩)
      (by kernel_rfl) os started H enc
      (ChangeSpec.witness6 (enc := enc) (C := Try.checked) false ⟨#[], #[.int .i64 0, .int .i64 0], []⟩ 8 (by kernel_rfl) (by kernel_rfl) (by kernel_rfl) (by kernel_rfl))
      heapEdges_walks)
#print axioms heapEdges_row

end Go.Proofs.Ytmbeelakkiodaaa
