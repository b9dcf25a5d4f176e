/-
  The document's heap: Put.
-/
import Derived.Test.YtmbeelakkiodaaaHpR
namespace Go.Proofs.Ytmbeelakkiodaaa
open Go.RowKit
section
variable {S : Nat → Prop} {w w' : World} {p N gi gc : Nat} {I : List Bool} {C : List Int} {m : Nat → Option Int}
set_option maxHeartbeats 2000000 in
theorem rput_neg (h : DocS S w p N gi gc I C) (k c : Int) (hk : k < 0) : Calls Try.prog 11 #[hp p, .int .i64 k, .int .i64 c] w fun e w' => e = .returned (.bool false) ∧ Below w.heap.size w w' := by
  obtain ⟨c0, c1, -, -⟩ := h.k.o2
  have d0 : decide (k < 0) = true := by simpa using hk
  clear h
  go_enter Try.func11, Try.ntmps11
  go_wp2_with fail
  go_quiet (fail)
  go_wp2_with fail
  go_ret
  exact ⟨rfl, below_drewN (Below.refl _ _) _⟩
set_option maxHeartbeats 2000000 in
theorem rput_big (h : DocS S w p N gi gc I C) (k c : Int) (h0 : 0 ≤ k) (hk : (N : Int) ≤ k) : Calls Try.prog 11 #[hp p, .int .i64 k, .int .i64 c] w fun e w' => e = .returned (.bool false) ∧ Below w.heap.size w w' := by
  obtain ⟨c0, c1, -, -⟩ := h.k.o2
  have d0 : decide (k < 0) = false := by simpa using h0
  have d1 : decide ((N : Int) ≤ k) = true := by simpa using hk
  clear h
  go_enter Try.func11, Try.ntmps11
  go_wp2_with fail
  go_quiet (fail)
  go_wp2_with fail
  go_ret
  exact ⟨rfl, below_drewN (Below.refl _ _) _⟩
/-- Put, where it is done. -/
def RPutPost (S : Nat → Prop) (w : World) (p N gi gc : Nat) (I : List Bool) (C : List Int) (k : Nat) (c : Int) (e : Ending) (w' : World) : Prop :=
  e = .returned (.bool true) ∧ DocS S w' p N gi gc (I.set k true) (C.set k (hld c)) ∧ Keep (fun b => ¬ S b) w w'

set_option maxHeartbeats 4000000 in
set_option maxRecDepth 100000 in
theorem rput_new (h : DocS S w p N gi gc I C) (hN : N ≤ 16384) (k : Nat) (c d : Int) (c0' : -9223372036854775808 ≤ c) (c1' : c ≤ 9223372036854775807) (hII : I[k]? = some false) (hCC : C[k]? = some d) :
    Calls Try.prog 11 #[hp p, .int .i64 k, .int .i64 c] w (RPutPost S w p N gi gc I C k c) := by
  obtain ⟨c0, c1, -, -⟩ := h.k.o2
  have hl := lt_of_get hII
  rw [h.il] at hl
  have x0 := h.ic hII
  have d1 : decide (N ≤ k) = false := by simpa using hl
  have hki : (k : Int) < (N : Int) := by omega
  have hk64 : (k : Int) ≤ 9223372036854775807 := by omega
  have H := Lib.hid h
  clear h
  have C0 := Lib.hid c0
  have C1 := Lib.hid c1
  have X0 := Lib.hid x0
  clear c0 c1 x0
  go_enter Try.func11, Try.ntmps11
  go_wp2_with fail
  have hGS : Grows (fun w' => Below w.heap.size w w') := Grows.below w
  refine' wp_growL _ (fun w' => Below w.heap.size w w') [[], [0], [1], [2], [2], [2, 4], [2, 5], [2, 6], [2, 7], [2, 3, 8], [2, 9], [10], [11], [11, 12], [11, 13], [11, 14], [11], [11, 15, 16], [11, 17], [11, 18], [19], [19, 20], [19, 21], [19, 22], [19], [19, 23, 24], [19, 25], [19], [19, 27], [19, 26, 28], [11, 19, 29], [11, 30]] (Fact.lit _ :: Fact.lit _ :: Fact.lit _ :: Fact.lit _ :: Fact.lit _ :: Fact.lit _ :: Fact.lit _ :: Fact.lit _ :: Fact.lit _ :: Fact.lit _ :: Fact.lit _ :: Fact.lit _ :: Fact.lit _ :: Fact.lit _ :: Fact.lit _ :: Fact.lit _ :: Fact.lit _ :: Fact.lit _ :: Fact.lit _ :: Fact.lit _ :: Fact.lit _ :: Fact.lit _ :: Fact.lit _ :: Fact.lit _ :: Fact.lit _ :: Fact.lit _ :: Fact.lit _ :: Fact.lit _ :: Fact.lit _ :: Fact.lit _ :: Fact.lit _ :: Fact.lit _ :: []) (by kernel_rfl) rfl (by kernel_rfl) (Below.refl _ _).drew ?seqp0
  case' seqp0 => skip
  iterate 32 ((first | (apply grow_skip; (case hf => rfl); (case hw => rfl)) | (apply grow_lit; (case hf => rfl); (case hw => rfl); (case hrun => (intro w' hS H; clear H; (have y0 := keep hS C0.out); (have y1 := keep hS C1.out); (have y2 := keep hS X0.out); clear hS; go_simp; first | done | exact rfl)))); (case hc => (simp only [Act.put, List.setIfInBounds_toArray, List.set_cons_zero, List.set_cons_succ]; first | done | exact rfl)); (try (case hj => rfl)))
  intro WX hbX _
  have HX := Lib.hid (H.out.old hbX)
  have HK : Hid (Keep (fun b => ¬ S b) w WX) := Lib.hid (Keep.of hbX)
  clear hbX hGS H C0 C1 X0
  obtain ⟨c0, c1, -, -⟩ := HX.out.k.o2
  have fx := HX.out.i.free k
  have xi := HX.out.ic hII
  obtain ⟨hs2, hk2⟩ := HX.out.setI k true
  obtain ⟨w2, hw2⟩ := named (WX.setCell ⟨gi, k, none⟩ (.bool true))
  rw [← hw2] at hs2 hk2
  obtain ⟨e0, e1, -, -⟩ := hs2.k.o2
  have E1 := Lib.hid e1
  have HS2 := Lib.hid hs2
  have HKK := Lib.hid (HK.out.trans hk2)
  have HW2 := Lib.hid hw2.symm
  clear hs2 hk2 hw2 e0 e1
  go_wp2_with fail
  rw [HW2.out]
  clear c0 c1 fx xi HW2
  have hGS : Grows (fun w' => Below w2.heap.size w2 w') := Grows.below w2
  refine' wp_thenL _ 8 (fun w' => Below w2.heap.size w2 w') [[], [0], [0, 1], [0, 1, 2], [], [], [5], [0, 1, 2, 3, 4]] (Fact.lit _ :: Fact.lit _ :: Fact.lit _ :: Fact.lit _ :: Fact.lit _ :: Fact.lit _ :: Fact.lit _ :: Fact.lit _ :: []) (by kernel_rfl) rfl (by kernel_rfl) (Below.refl _ _).drew ?seqp4
  case' seqp4 => skip
  iterate 6 ((first | (apply grow_skip; (case hf => rfl); (case hw => rfl)) | (apply grow_lit; (case hf => rfl); (case hw => rfl); (case hrun => (intro w' hS H; clear H; (have y0 := keep hS E1.out); clear hS; go_simp; first | done | exact rfl)))); (case hc => (simp only [Act.put, List.setIfInBounds_toArray, List.set_cons_zero, List.set_cons_succ]; first | done | exact rfl)); (try (case hj => rfl)))
  (refine' grow_call (u := .int .i64 (hld c)) rfl Try.func16 (by kernel_rfl) rfl hGS rfl ?wt1 ?run1 ?put1 ?next1; (case wt1 => rfl); (case run1 => (intro w' hS H; exact (rheld_any c w' c0' c1').mono (fun e w2 h => ⟨h.1, h.2 ▸ Below.refl _ _⟩))); (case put1 => (simp only [Act.put, List.setIfInBounds_toArray, List.set_cons_zero, List.set_cons_succ]; first | done | exact rfl)); (case' next1 => skip))
  iterate 1 ((first | (apply grow_skip; (case hf => rfl); (case hw => rfl)) | (apply grow_lit; (case hf => rfl); (case hw => rfl); (case hrun => (intro w' hS H; clear H; (have y0 := keep hS E1.out); clear hS; go_simp; first | done | exact rfl)))); (case hc => (simp only [Act.put, List.setIfInBounds_toArray, List.set_cons_zero, List.set_cons_succ]; first | done | exact rfl)); (try (case hj => rfl)))
  intro w3 hb3 hk3
  clear hk3 hGS
  have hs3 := HS2.out.old hb3
  have y1 := hs3.cc hCC
  have fy := hs3.c.free k
  obtain ⟨hs4, hk4⟩ := hs3.setC k (hld c)
  have HP : Hid (RPutPost S w p N gi gc I C k c (.returned (.bool true)) (w3.setCell ⟨gc, k, none⟩ (.int .i64 (hld c)))) := Lib.hid ⟨rfl, hs4, (HKK.out.trans (Keep.of hb3)).trans hk4⟩
  clear hs3 hs4 hk4 hb3 HS2 HKK HX HK
  refine wpAny_ready (rs := [8]) (by kernel_rfl) (by simp) (AllReady.cons rfl (fun K hK => ?_) AllReady.nil)
  go_simp
  refine hK _ _ ?_
  clear hK K
  refine wpAny_done (by kernel_rfl) ?_ _
  go_wp2_with fail
  go_ret
  exact HP.out

set_option maxHeartbeats 4000000 in
set_option maxRecDepth 100000 in
theorem rput_in (h : DocS S w p N gi gc I C) (hN : N ≤ 16384) (k : Nat) (c d : Int) (c0' : -9223372036854775808 ≤ c) (c1' : c ≤ 9223372036854775807) (hII : I[k]? = some true) (hCC : C[k]? = some d) (hlt : hld c < d) :
    Calls Try.prog 11 #[hp p, .int .i64 k, .int .i64 c] w (RPutPost S w p N gi gc I C k c) := by
  obtain ⟨c0, c1, -, -⟩ := h.k.o2
  have hl := lt_of_get hII
  rw [h.il] at hl
  have x0 := h.ic hII
  have x1 := h.cc hCC
  have d1 : decide (N ≤ k) = false := by simpa using hl
  have d2 : decide (d ≤ hld c) = false := by simpa using hlt
  have hki : (k : Int) < (N : Int) := by omega
  have hk64 : (k : Int) ≤ 9223372036854775807 := by omega
  have H := Lib.hid h
  have C0 := Lib.hid c0
  have C1 := Lib.hid c1
  have X0 := Lib.hid x0
  have X1 := Lib.hid x1
  clear h c0 c1 x0 x1
  go_enter Try.func11, Try.ntmps11
  go_wp2_with fail
  have hGS : Grows (fun w' => Below w.heap.size w w') := Grows.below w
  refine' wp_growL _ (fun w' => Below w.heap.size w w') [[], [0], [1], [2], [2], [2, 4], [2, 5], [2, 6], [2, 7], [2, 3, 8], [2, 9], [10], [11], [11, 12], [11, 13], [11, 14], [11], [11, 15, 16], [11, 17], [11, 18], [19], [19, 20], [19, 21], [19, 22], [19], [19, 23, 24], [19, 25], [19], [19, 27], [19, 26, 28], [11, 19, 29], [11, 30]] (Fact.lit _ :: Fact.lit _ :: Fact.lit _ :: Fact.lit _ :: Fact.lit _ :: Fact.lit _ :: Fact.lit _ :: Fact.lit _ :: Fact.lit _ :: Fact.lit _ :: Fact.lit _ :: Fact.lit _ :: Fact.lit _ :: Fact.lit _ :: Fact.lit _ :: Fact.lit _ :: Fact.lit _ :: Fact.lit _ :: Fact.lit _ :: Fact.lit _ :: Fact.lit _ :: Fact.lit _ :: Fact.lit _ :: Fact.lit _ :: Fact.lit _ :: Fact.lit _ :: Fact.lit _ :: Fact.lit _ :: Fact.lit _ :: Fact.lit _ :: Fact.lit _ :: Fact.lit _ :: []) (by kernel_rfl) rfl (by kernel_rfl) (Below.refl _ _).drew ?seqp1
  case' seqp1 => skip
  iterate 28 ((first | (apply grow_skip; (case hf => rfl); (case hw => rfl)) | (apply grow_lit; (case hf => rfl); (case hw => rfl); (case hrun => (intro w' hS H; clear H; (have y0 := keep hS C0.out); (have y1 := keep hS C1.out); (have y2 := keep hS X0.out); (have y3 := keep hS X1.out); clear hS; go_simp; first | done | exact rfl)))); (case hc => (simp only [Act.put, List.setIfInBounds_toArray, List.set_cons_zero, List.set_cons_succ]; first | done | exact rfl)); (try (case hj => rfl)))
  (refine' grow_call (u := .int .i64 (hld c)) rfl Try.func16 (by kernel_rfl) rfl hGS rfl ?wt2 ?run2 ?put2 ?next2; (case wt2 => rfl); (case run2 => (intro w' hS H; exact (rheld_any c w' c0' c1').mono (fun e w2 h => ⟨h.1, h.2 ▸ Below.refl _ _⟩))); (case put2 => (simp only [Act.put, List.setIfInBounds_toArray, List.set_cons_zero, List.set_cons_succ]; first | done | exact rfl)); (case' next2 => skip))
  iterate 3 ((first | (apply grow_skip; (case hf => rfl); (case hw => rfl)) | (apply grow_lit; (case hf => rfl); (case hw => rfl); (case hrun => (intro w' hS H; clear H; (have y0 := keep hS C0.out); (have y1 := keep hS C1.out); (have y2 := keep hS X0.out); (have y3 := keep hS X1.out); clear hS; go_simp; first | done | exact rfl)))); (case hc => (simp only [Act.put, List.setIfInBounds_toArray, List.set_cons_zero, List.set_cons_succ]; first | done | exact rfl)); (try (case hj => rfl)))
  intro WX hbX _
  have HX := Lib.hid (H.out.old hbX)
  have HK : Hid (Keep (fun b => ¬ S b) w WX) := Lib.hid (Keep.of hbX)
  clear hbX hGS H C0 C1 X0 X1
  obtain ⟨c0, c1, -, -⟩ := HX.out.k.o2
  have fx := HX.out.i.free k
  have xi := HX.out.ic hII
  obtain ⟨hs2, hk2⟩ := HX.out.setI k true
  obtain ⟨w2, hw2⟩ := named (WX.setCell ⟨gi, k, none⟩ (.bool true))
  rw [← hw2] at hs2 hk2
  obtain ⟨e0, e1, -, -⟩ := hs2.k.o2
  have E1 := Lib.hid e1
  have HS2 := Lib.hid hs2
  have HKK := Lib.hid (HK.out.trans hk2)
  have HW2 := Lib.hid hw2.symm
  clear hs2 hk2 hw2 e0 e1
  go_wp2_with fail
  rw [HW2.out]
  clear c0 c1 fx xi HW2
  have hGS : Grows (fun w' => Below w2.heap.size w2 w') := Grows.below w2
  refine' wp_thenL _ 8 (fun w' => Below w2.heap.size w2 w') [[], [0], [0, 1], [0, 1, 2], [], [], [5], [0, 1, 2, 3, 4]] (Fact.lit _ :: Fact.lit _ :: Fact.lit _ :: Fact.lit _ :: Fact.lit _ :: Fact.lit _ :: Fact.lit _ :: Fact.lit _ :: []) (by kernel_rfl) rfl (by kernel_rfl) (Below.refl _ _).drew ?seqp4
  case' seqp4 => skip
  iterate 6 ((first | (apply grow_skip; (case hf => rfl); (case hw => rfl)) | (apply grow_lit; (case hf => rfl); (case hw => rfl); (case hrun => (intro w' hS H; clear H; (have y0 := keep hS E1.out); clear hS; go_simp; first | done | exact rfl)))); (case hc => (simp only [Act.put, List.setIfInBounds_toArray, List.set_cons_zero, List.set_cons_succ]; first | done | exact rfl)); (try (case hj => rfl)))
  (refine' grow_call (u := .int .i64 (hld c)) rfl Try.func16 (by kernel_rfl) rfl hGS rfl ?wt3 ?run3 ?put3 ?next3; (case wt3 => rfl); (case run3 => (intro w' hS H; exact (rheld_any c w' c0' c1').mono (fun e w2 h => ⟨h.1, h.2 ▸ Below.refl _ _⟩))); (case put3 => (simp only [Act.put, List.setIfInBounds_toArray, List.set_cons_zero, List.set_cons_succ]; first | done | exact rfl)); (case' next3 => skip))
  iterate 1 ((first | (apply grow_skip; (case hf => rfl); (case hw => rfl)) | (apply grow_lit; (case hf => rfl); (case hw => rfl); (case hrun => (intro w' hS H; clear H; (have y0 := keep hS E1.out); clear hS; go_simp; first | done | exact rfl)))); (case hc => (simp only [Act.put, List.setIfInBounds_toArray, List.set_cons_zero, List.set_cons_succ]; first | done | exact rfl)); (try (case hj => rfl)))
  intro w3 hb3 hk3
  clear hk3 hGS
  have hs3 := HS2.out.old hb3
  have y1 := hs3.cc hCC
  have fy := hs3.c.free k
  obtain ⟨hs4, hk4⟩ := hs3.setC k (hld c)
  have HP : Hid (RPutPost S w p N gi gc I C k c (.returned (.bool true)) (w3.setCell ⟨gc, k, none⟩ (.int .i64 (hld c)))) := Lib.hid ⟨rfl, hs4, (HKK.out.trans (Keep.of hb3)).trans hk4⟩
  clear hs3 hs4 hk4 hb3 HS2 HKK HX HK
  refine wpAny_ready (rs := [8]) (by kernel_rfl) (by simp) (AllReady.cons rfl (fun K hK => ?_) AllReady.nil)
  go_simp
  refine hK _ _ ?_
  clear hK K
  refine wpAny_done (by kernel_rfl) ?_ _
  go_wp2_with fail
  go_ret
  exact HP.out

set_option maxHeartbeats 4000000 in
set_option maxRecDepth 100000 in
theorem rput_same (h : DocS S w p N gi gc I C) (hN : N ≤ 16384) (k : Nat) (c d : Int) (c0' : -9223372036854775808 ≤ c) (c1' : c ≤ 9223372036854775807) (hII : I[k]? = some true) (hCC : C[k]? = some d) (hlt : d ≤ hld c) :
    Calls Try.prog 11 #[hp p, .int .i64 k, .int .i64 c] w fun e w' => e = .returned (.bool false) ∧ Below w.heap.size w w' := by
  obtain ⟨c0, c1, -, -⟩ := h.k.o2
  have hl := lt_of_get hII
  rw [h.il] at hl
  have x0 := h.ic hII
  have x1 := h.cc hCC
  have d1 : decide (N ≤ k) = false := by simpa using hl
  have d2 : decide (d ≤ hld c) = true := by simpa using hlt
  have hki : (k : Int) < (N : Int) := by omega
  have hk64 : (k : Int) ≤ 9223372036854775807 := by omega
  have C0 := Lib.hid c0
  have C1 := Lib.hid c1
  have X0 := Lib.hid x0
  have X1 := Lib.hid x1
  clear h c0 c1 x0 x1 hII hCC
  go_enter Try.func11, Try.ntmps11
  go_wp2_with fail
  have hGS : Grows (fun w' => Below w.heap.size w w') := Grows.below w
  refine' wp_growL _ (fun w' => Below w.heap.size w w') [[], [0], [1], [2], [2], [2, 4], [2, 5], [2, 6], [2, 7], [2, 3, 8], [2, 9], [10], [11], [11, 12], [11, 13], [11, 14], [11], [11, 15, 16], [11, 17], [11, 18], [19], [19, 20], [19, 21], [19, 22], [19], [19, 23, 24], [19, 25], [19], [19, 27], [19, 26, 28], [11, 19, 29], [11, 30]] (Fact.lit _ :: Fact.lit _ :: Fact.lit _ :: Fact.lit _ :: Fact.lit _ :: Fact.lit _ :: Fact.lit _ :: Fact.lit _ :: Fact.lit _ :: Fact.lit _ :: Fact.lit _ :: Fact.lit _ :: Fact.lit _ :: Fact.lit _ :: Fact.lit _ :: Fact.lit _ :: Fact.lit _ :: Fact.lit _ :: Fact.lit _ :: Fact.lit _ :: Fact.lit _ :: Fact.lit _ :: Fact.lit _ :: Fact.lit _ :: Fact.lit _ :: Fact.lit _ :: Fact.lit _ :: Fact.lit _ :: Fact.lit _ :: Fact.lit _ :: Fact.lit _ :: Fact.lit _ :: []) (by kernel_rfl) rfl (by kernel_rfl) (Below.refl _ _).drew ?seqp1
  case' seqp1 => skip
  iterate 28 ((first | (apply grow_skip; (case hf => rfl); (case hw => rfl)) | (apply grow_lit; (case hf => rfl); (case hw => rfl); (case hrun => (intro w' hS H; clear H; (have y0 := keep hS C0.out); (have y1 := keep hS C1.out); (have y2 := keep hS X0.out); (have y3 := keep hS X1.out); clear hS; go_simp; first | done | exact rfl)))); (case hc => (simp only [Act.put, List.setIfInBounds_toArray, List.set_cons_zero, List.set_cons_succ]; first | done | exact rfl)); (try (case hj => rfl)))
  (refine' grow_call (u := .int .i64 (hld c)) rfl Try.func16 (by kernel_rfl) rfl hGS rfl ?wt4 ?run4 ?put4 ?next4; (case wt4 => rfl); (case run4 => (intro w' hS H; exact (rheld_any c w' c0' c1').mono (fun e w2 h => ⟨h.1, h.2 ▸ Below.refl _ _⟩))); (case put4 => (simp only [Act.put, List.setIfInBounds_toArray, List.set_cons_zero, List.set_cons_succ]; first | done | exact rfl)); (case' next4 => skip))
  iterate 3 ((first | (apply grow_skip; (case hf => rfl); (case hw => rfl)) | (apply grow_lit; (case hf => rfl); (case hw => rfl); (case hrun => (intro w' hS H; clear H; (have y0 := keep hS C0.out); (have y1 := keep hS C1.out); (have y2 := keep hS X0.out); (have y3 := keep hS X1.out); clear hS; go_simp; first | done | exact rfl)))); (case hc => (simp only [Act.put, List.setIfInBounds_toArray, List.set_cons_zero, List.set_cons_succ]; first | done | exact rfl)); (try (case hj => rfl)))
  intro WX hbX _
  clear hGS C0 C1 X0 X1
  go_wp2_with fail
  go_ret
  exact ⟨rfl, hbX⟩
end

end Go.Proofs.Ytmbeelakkiodaaa
