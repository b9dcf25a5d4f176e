/-
  The program's file.Parse: the frame, and all of it.
-/
import Derived.Test.YtjapdbegfanfiaaGreatDoorB15
import Derived.Lib.SlBytesConst
namespace Go.Proofs.YtjapdbegfanfiaaGreatDoor
open Go.RowKit

set_option maxRecDepth 100000 in
set_option maxHeartbeats 4000000 in
theorem vFault (e : Int) (w : World) : Calls Tryz.prog 43 #[.int .i64 0, .int .i64 e] w (EPost [(fileB, 0)] e w) := by
  go_enter Tryz.func43, Tryz.ntmps43
  go_wp2
  go_ret
  refine ⟨_, rfl, Or.inr ⟨by simp, ⟨w.heap.size, .iface 83 (.int .i64 e), rfl, ?_, ?_, ?_, rfl⟩⟩, below_new8 _⟩
  · simp [fileB]
  · simp
  · simp
set_option maxRecDepth 100000 in
set_option maxHeartbeats 4000000 in
theorem vEqual {w : World} {v u : Value} {l m : List Int} (h : U8s w v l) (h2 : U8s w u m) (hl : In8 l) (hm : In8 m) :
    Calls Tryz.prog 50 #[v, u] w fun ev w' => ev = .returned (.bool (decide (l = m))) ∧ w = w' := by
  obtain ⟨T1, hT1⟩ : ∃ s, strOfNums l = s := ⟨_, rfl⟩
  obtain ⟨T2, hT2⟩ : ∃ s, strOfNums m = s := ⟨_, rfl⟩
  have q1 := text_of h hT1
  have q2 := text_of h2 hT2
  have hne : (T1.toList == T2.toList) = decide (l = m) := by rw [← hT1, ← hT2, text_inj hl hm]
  have HNE := Lib.hid hne
  clear hne hT1 hT2 h h2
  go_enter Tryz.func50, Tryz.ntmps50
  go_wp2_with fail
  go_ret
  exact ⟨by rw [HNE.out]; rfl, rfl⟩
set_option maxRecDepth 100000 in
set_option maxHeartbeats 4000000 in
theorem vPrefix {w : World} {p : Option Addr} {c : Nat} {u : Value} {l m : List Int} (h : U8s w (.slice p l.length c) l) (h2 : U8s w u m) (hl : In8 l) (hm : In8 m) (hlen : m.length ≤ l.length) :
    Calls Tryz.prog 51 #[.slice p l.length c, u] w fun ev w' => ev = .returned (.bool (decide (l.take m.length = m))) ∧ w = w' := by
  obtain ⟨q, d, rfl⟩ := h2.shape
  have hc : l.length ≤ c := (OldB.of h).cap.2
  have hd : (m.length : Int) ≤ l.length := by omega
  have hmc : m.length ≤ c := by omega
  have HT := Lib.hid ((OldB.of h).take m.length hlen)
  have H2 := Lib.hid h2
  have HL := Lib.hid hl
  have HM := Lib.hid hm
  clear h h2 hl hm
  go_enter Tryz.func51, Tryz.ntmps51
  go_wp2_with fail
  refine (vEqual HT.out H2.out (HL.out.take _) HM.out).mono ?_
  rintro ev w1 ⟨rfl, rfl⟩
  go_wp2_with fail
  go_ret
  exact ⟨rfl, rfl⟩
theorem U8at.marked (w : World) (l : List Int) (hl : l.length ≤ 1000) (g : Nat) (hg : w.heap.size = g) (f : Nat × Nat) : U8at (w.alloc (.cells (l.map (Value.int .u8)).toArray 5 f)) (.slice (some ⟨g, 0, none⟩) l.length l.length) l g := by
  subst hg
  refine Or.inr ⟨by omega, 0, l.length, Nat.le_refl _, by omega, rfl, by simp, fun i hi => ?_⟩
  have e : (w.alloc (.cells (l.map (Value.int .u8)).toArray 5 f)).heap[w.heap.size]? = some (.cells (l.map (Value.int .u8)).toArray 5 f) := by
    show (w.heap.push _)[w.heap.size]? = _
    simp
  unfold World.cell?
  simp only [e]
  simp [hi]
/-- What is wrong with bytes, whatever their numbers are. -/
def frameF (B : List Int) : Flt :=
  if 65536 < B.length then ([(fileB, 0)], 4)
  else if B.length < 8 then ([(fileB, 0)], 3)
  else if sumB (B.take (B.length - 4)) ≠ B.drop (B.length - 4) then ([(fileB, 0)], 11)
  else if B.take 4 ≠ markL then ([(fileB, 0)], 2)
  else fltOK

set_option maxRecDepth 100000 in
set_option maxHeartbeats 4000000 in
theorem frame_long (p0 : Option Addr) (c0 : Nat) (B : List Int) (w : World) (hl : 65536 < B.length) : Calls Tryz.prog 23 #[.slice p0 B.length c0] w (EPost (frameF B).1 (frameF B).2 w) := by
  have hP : frameF B = ([(fileB, 0)], 4) := by unfold frameF; rw [if_pos hl]
  have HP := Lib.hid hP
  clear hP
  have d1 : decide ((65536 : Int) < (B.length : Int)) = true := decide_eq_true (by omega)
  go_enter Tryz.func23, Tryz.ntmps23
  go_wp2_with fail
  refine (vFault 4 _).mono ?_
  rintro ev w9 ⟨v, rfl, hv, hb⟩
  have HF : Hid (EPost (frameF B).1 (frameF B).2 w (.returned v) w9) := by rw [HP.out]; exact Lib.hid ⟨v, rfl, hv, hb⟩
  clear hv hb HP
  go_wp2_with fail
  go_ret
  exact HF.out

set_option maxRecDepth 100000 in
set_option maxHeartbeats 4000000 in
theorem frame_short (p0 : Option Addr) (c0 : Nat) (B : List Int) (w : World) (hl : ¬ 65536 < B.length) (hs : B.length < 8) : Calls Tryz.prog 23 #[.slice p0 B.length c0] w (EPost (frameF B).1 (frameF B).2 w) := by
  have hP : frameF B = ([(fileB, 0)], 3) := by unfold frameF; rw [if_neg hl, if_pos hs]
  have HP := Lib.hid hP
  clear hP
  have d1 : decide ((65536 : Int) < (B.length : Int)) = false := decide_eq_false (by omega)
  have d2 : decide ((B.length : Int) < 8) = true := decide_eq_true (by omega)
  go_enter Tryz.func23, Tryz.ntmps23
  go_wp2_with fail
  refine (vFault 3 _).mono ?_
  rintro ev w9 ⟨v, rfl, hv, hb⟩
  have HF : Hid (EPost (frameF B).1 (frameF B).2 w (.returned v) w9) := by rw [HP.out]; exact Lib.hid ⟨v, rfl, hv, hb⟩
  clear hv hb HP
  go_wp2_with fail
  go_ret
  exact HF.out

set_option maxRecDepth 100000 in
set_option maxHeartbeats 4000000 in
theorem frame_sum (p0 : Option Addr) (c0 : Nat) (B : List Int) (w : World) (h : U8s w (.slice p0 B.length c0) B) (hin : In8 B) (hl : ¬ 65536 < B.length) (hs : ¬ B.length < 8) (hsum : ¬ sumB (B.take (B.length - 4)) = B.drop (B.length - 4)) : Calls Tryz.prog 23 #[.slice p0 B.length c0] w (EPost (frameF B).1 (frameF B).2 w) := by
  have hP : frameF B = ([(fileB, 0)], 11) := by unfold frameF; rw [if_neg hl, if_neg hs, if_pos hsum]
  have HP := Lib.hid hP
  clear hP
  have d1 : decide ((65536 : Int) < (B.length : Int)) = false := decide_eq_false (by omega)
  have d2 : decide ((B.length : Int) < 8) = false := decide_eq_false (by omega)
  have HOB := Lib.hid (OldB.of h)
  have hcap : B.length ≤ c0 := HOB.out.cap.2
  have HIN := Lib.hid hin
  clear h hin
  obtain ⟨M, hM⟩ : ∃ M : Nat, B.length = M + 4 := ⟨B.length - 4, by omega⟩
  have hM4 : B.length - 4 = M := by omega
  have hMi : (B.length : Int) - 4 = (M : Int) := by omega
  have hwM : IntKind.i64.wrap ((B.length : Int) - 4) = (M : Int) := by rw [hMi]; exact wrap_small (by omega) (by omega)
  have hMc : M ≤ c0 := by omega
  have hMl : M ≤ B.length := by omega
  have hBc : B.length ≤ c0 := hcap
  have HTK := Lib.hid (HIN.out.take M)
  obtain ⟨BB, hBB⟩ : ∃ BB, decide (B.drop M = sumB (B.take M)) = BB := ⟨_, rfl⟩
  have HDD := Lib.hid hBB
  have hbv : BB = false := by
    rw [← hBB]
    rw [hM4] at hsum
    exact decide_eq_false (fun h => hsum h.symm)
  subst hbv
  have HM := Lib.hid hM
  clear hBB hMi hM hM4
  go_enter Tryz.func23, Tryz.ntmps23
  go_wp2_with fail
  have hGS : Grows (fun w' => Below w.heap.size w w') := Grows.below w
  refine' wp_growL _ (fun w' => Below w.heap.size w w') [[], [], [0, 1], [], [], [3, 4], [5], [2, 6], [7]] (Fact.lit _ :: Fact.lit _ :: Fact.lit _ :: Fact.lit _ :: Fact.lit _ :: Fact.lit _ :: Fact.prop _ _ :: Fact.lit _ :: Fact.lit _ :: []) (by kernel_rfl) rfl (by kernel_rfl) (Below.refl _ _).drew ?seqfa
  case' seqfa => skip
  iterate 2 ((first | (apply grow_skip; (case hf => rfl); (case hw => rfl)) | (apply grow_lit; (case hf => rfl); (case hw => rfl); (case hrun => (intro w' hS H; clear H; clear hS; go_simp; first | done | exact rfl)))); (case hc => (simp only [Act.put, List.setIfInBounds_toArray, List.set_cons_zero, List.set_cons_succ]; first | done | exact rfl)); (try (case hj => rfl)))
  (refine' grow_lit rfl ?wtL1 ?runL1 ?putL1 ?nextL1; (case wtL1 => rfl); (case runL1 => (intro w' hS H; clear H hS; go_simp; exact sl_part (p := p0) (c := c0) (a := M) (n := 4) (x := B.length - M) (y := c0 - M) (z := M) (by have := HM.out; omega) rfl rfl)); (case putL1 => (simp only [Act.put, List.setIfInBounds_toArray, List.set_cons_zero, List.set_cons_succ]; first | done | exact rfl)); (case' nextL1 => skip))
  iterate 2 ((first | (apply grow_skip; (case hf => rfl); (case hw => rfl)) | (apply grow_lit; (case hf => rfl); (case hw => rfl); (case hrun => (intro w' hS H; clear H; clear hS; go_simp; first | done | exact rfl)))); (case hc => (simp only [Act.put, List.setIfInBounds_toArray, List.set_cons_zero, List.set_cons_succ]; first | done | exact rfl)); (try (case hj => rfl)))
  (refine' grow_lit rfl ?wtL2 ?runL2 ?putL2 ?nextL2; (case wtL2 => rfl); (case runL2 => (intro w' hS H; clear H hS; go_simp; first | done | exact rfl)); (case putL2 => (simp only [Act.put, List.setIfInBounds_toArray, List.set_cons_zero, List.set_cons_succ]; first | done | exact rfl)); (case' nextL2 => skip))
  (refine' grow_callP (p := fun v w => U8s w v (sumB (B.take M))) (hp := fun v w w' h hb => U8s.below h hb) rfl Tryz.func42 (by kernel_rfl) rfl hGS rfl ?wt7 ?run7 ?put7 ?next7; (case wt7 => rfl); (case run7 => (intro w' hS H; exact (wsum_any _ (B.take M) w' ((HOB.out.keep hS).take M hMl) HTK.out).mono (fun e w2 ⟨v, z, h1, h2, h3, h4⟩ => ⟨v, h1, ⟨z, h2⟩, h4⟩))); (case put7 => (intro v; simp only [Act.put, List.setIfInBounds_toArray, List.set_cons_zero, List.set_cons_succ]; first | done | exact rfl)); (case' next7 => intro v6))
  (refine' grow_call (u := .bool false) rfl Tryz.func50 (by kernel_rfl) rfl hGS rfl ?wt8 ?run8 ?put8 ?next8; (case wt8 => rfl); (case run8 => (intro w' hS H; have h3 : U8s w' v6 (sumB (B.take M)) := H 6 (by decide); have h5 : U8s w' (.slice (moved p0 c0 M) 4 (c0 - M)) (B.drop M) := (by have h5 := (HOB.out.keep hS).part M 4 (by have := HM.out; omega); rwa [List.take_of_length_le (by have := HM.out; rw [List.length_drop]; omega)] at h5); exact (vEqual h5 h3 (HIN.out.drop M) (sumB_in8 _)).mono (fun ev w2 h => ⟨by rw [h.1, HDD.out], by rw [← h.2]; exact Below.refl _ _⟩))); (case put8 => (simp only [Act.put, List.setIfInBounds_toArray, List.set_cons_zero, List.set_cons_succ]; first | done | exact rfl)); (case' next8 => skip))
  iterate 1 ((first | (apply grow_skip; (case hf => rfl); (case hw => rfl)) | (apply grow_lit; (case hf => rfl); (case hw => rfl); (case hrun => (intro w' hS H; clear H; clear hS; go_simp; first | done | exact rfl)))); (case hc => (simp only [Act.put, List.setIfInBounds_toArray, List.set_cons_zero, List.set_cons_succ]; first | done | exact rfl)); (try (case hj => rfl)))
  intro w1 hb _
  have B1 := Lib.hid hb
  clear hb hGS HTK hwM
  go_wp2_with fail
  refine (vFault 11 _).mono ?_
  rintro ev w9 ⟨v, rfl, hv, hb⟩
  have HF : Hid (EPost (frameF B).1 (frameF B).2 w (.returned v) w9) := by rw [HP.out]; exact Lib.hid ⟨v, rfl, hv, bOn B1.out hb⟩
  clear hv hb HP
  go_wp2_with fail
  go_ret
  exact HF.out

set_option maxRecDepth 100000 in
set_option maxHeartbeats 4000000 in
theorem frame_form (p0 : Option Addr) (c0 : Nat) (B : List Int) (w : World) (h : U8s w (.slice p0 B.length c0) B) (hin : In8 B) (hl : ¬ 65536 < B.length) (hs : ¬ B.length < 8) (hsum : sumB (B.take (B.length - 4)) = B.drop (B.length - 4)) (hmark : ¬ B.take 4 = markL) : Calls Tryz.prog 23 #[.slice p0 B.length c0] w (EPost (frameF B).1 (frameF B).2 w) := by
  have hP : frameF B = ([(fileB, 0)], 2) := by unfold frameF; rw [if_neg hl, if_neg hs, if_neg (by simpa using hsum), if_pos hmark]
  have HP := Lib.hid hP
  clear hP
  have d1 : decide ((65536 : Int) < (B.length : Int)) = false := decide_eq_false (by omega)
  have d2 : decide ((B.length : Int) < 8) = false := decide_eq_false (by omega)
  have HOB := Lib.hid (OldB.of h)
  have hcap : B.length ≤ c0 := HOB.out.cap.2
  have HIN := Lib.hid hin
  clear h hin
  obtain ⟨M, hM⟩ : ∃ M : Nat, B.length = M + 4 := ⟨B.length - 4, by omega⟩
  have hM4 : B.length - 4 = M := by omega
  have hMi : (B.length : Int) - 4 = (M : Int) := by omega
  have hwM : IntKind.i64.wrap ((B.length : Int) - 4) = (M : Int) := by rw [hMi]; exact wrap_small (by omega) (by omega)
  have hMc : M ≤ c0 := by omega
  have hMl : M ≤ B.length := by omega
  have hBc : B.length ≤ c0 := hcap
  have HTK := Lib.hid (HIN.out.take M)
  obtain ⟨BB, hBB⟩ : ∃ BB, decide (B.drop M = sumB (B.take M)) = BB := ⟨_, rfl⟩
  have HDD := Lib.hid hBB
  have hbv : BB = true := by
    rw [← hBB]
    rw [hM4] at hsum
    exact decide_eq_true hsum.symm
  subst hbv
  have HM := Lib.hid hM
  clear hBB hMi hM hM4
  go_enter Tryz.func23, Tryz.ntmps23
  go_wp2_with fail
  have hGS : Grows (fun w' => Below w.heap.size w w') := Grows.below w
  refine' wp_growL _ (fun w' => Below w.heap.size w w') [[], [], [0, 1], [], [], [3, 4], [5], [2, 6], [7]] (Fact.lit _ :: Fact.lit _ :: Fact.lit _ :: Fact.lit _ :: Fact.lit _ :: Fact.lit _ :: Fact.prop _ _ :: Fact.lit _ :: Fact.lit _ :: []) (by kernel_rfl) rfl (by kernel_rfl) (Below.refl _ _).drew ?seqfb
  case' seqfb => skip
  iterate 2 ((first | (apply grow_skip; (case hf => rfl); (case hw => rfl)) | (apply grow_lit; (case hf => rfl); (case hw => rfl); (case hrun => (intro w' hS H; clear H; clear hS; go_simp; first | done | exact rfl)))); (case hc => (simp only [Act.put, List.setIfInBounds_toArray, List.set_cons_zero, List.set_cons_succ]; first | done | exact rfl)); (try (case hj => rfl)))
  (refine' grow_lit rfl ?wtL3 ?runL3 ?putL3 ?nextL3; (case wtL3 => rfl); (case runL3 => (intro w' hS H; clear H hS; go_simp; exact sl_part (p := p0) (c := c0) (a := M) (n := 4) (x := B.length - M) (y := c0 - M) (z := M) (by have := HM.out; omega) rfl rfl)); (case putL3 => (simp only [Act.put, List.setIfInBounds_toArray, List.set_cons_zero, List.set_cons_succ]; first | done | exact rfl)); (case' nextL3 => skip))
  iterate 2 ((first | (apply grow_skip; (case hf => rfl); (case hw => rfl)) | (apply grow_lit; (case hf => rfl); (case hw => rfl); (case hrun => (intro w' hS H; clear H; clear hS; go_simp; first | done | exact rfl)))); (case hc => (simp only [Act.put, List.setIfInBounds_toArray, List.set_cons_zero, List.set_cons_succ]; first | done | exact rfl)); (try (case hj => rfl)))
  (refine' grow_lit rfl ?wtL4 ?runL4 ?putL4 ?nextL4; (case wtL4 => rfl); (case runL4 => (intro w' hS H; clear H hS; go_simp; first | done | exact rfl)); (case putL4 => (simp only [Act.put, List.setIfInBounds_toArray, List.set_cons_zero, List.set_cons_succ]; first | done | exact rfl)); (case' nextL4 => skip))
  (refine' grow_callP (p := fun v w => U8s w v (sumB (B.take M))) (hp := fun v w w' h hb => U8s.below h hb) rfl Tryz.func42 (by kernel_rfl) rfl hGS rfl ?wt9 ?run9 ?put9 ?next9; (case wt9 => rfl); (case run9 => (intro w' hS H; exact (wsum_any _ (B.take M) w' ((HOB.out.keep hS).take M hMl) HTK.out).mono (fun e w2 ⟨v, z, h1, h2, h3, h4⟩ => ⟨v, h1, ⟨z, h2⟩, h4⟩))); (case put9 => (intro v; simp only [Act.put, List.setIfInBounds_toArray, List.set_cons_zero, List.set_cons_succ]; first | done | exact rfl)); (case' next9 => intro v6))
  (refine' grow_call (u := .bool true) rfl Tryz.func50 (by kernel_rfl) rfl hGS rfl ?wt10 ?run10 ?put10 ?next10; (case wt10 => rfl); (case run10 => (intro w' hS H; have h3 : U8s w' v6 (sumB (B.take M)) := H 6 (by decide); have h5 : U8s w' (.slice (moved p0 c0 M) 4 (c0 - M)) (B.drop M) := (by have h5 := (HOB.out.keep hS).part M 4 (by have := HM.out; omega); rwa [List.take_of_length_le (by have := HM.out; rw [List.length_drop]; omega)] at h5); exact (vEqual h5 h3 (HIN.out.drop M) (sumB_in8 _)).mono (fun ev w2 h => ⟨by rw [h.1, HDD.out], by rw [← h.2]; exact Below.refl _ _⟩))); (case put10 => (simp only [Act.put, List.setIfInBounds_toArray, List.set_cons_zero, List.set_cons_succ]; first | done | exact rfl)); (case' next10 => skip))
  iterate 1 ((first | (apply grow_skip; (case hf => rfl); (case hw => rfl)) | (apply grow_lit; (case hf => rfl); (case hw => rfl); (case hrun => (intro w' hS H; clear H; clear hS; go_simp; first | done | exact rfl)))); (case hc => (simp only [Act.put, List.setIfInBounds_toArray, List.set_cons_zero, List.set_cons_succ]; first | done | exact rfl)); (try (case hj => rfl)))
  intro w1 hb _
  have B1 := Lib.hid hb
  clear hb hGS HTK hwM
  have hcv := Lib.run_convert_bytes_const (P := Tryz.prog) w1 22 5 #[.int .u8 82, .int .u8 78, .int .u8 68, .int .u8 49] 4 4 Tryz.underlying22 Tryz.underlying5
  have HBW := Lib.hid (((HOB.out.keep B1.out).below (below_new8 (w := w1) (.cells #[.int .u8 82, .int .u8 78, .int .u8 68, .int .u8 49] 5 (4, 5)))).s)
  have B2 := Lib.hid (bOn B1.out (below_new8 (w := w1) (.cells #[.int .u8 82, .int .u8 78, .int .u8 68, .int .u8 49] 5 (4, 5))))
  clear B1
  go_wp2_with fail
  refine (vPrefix (u := .slice (some ⟨w1.heap.size, 0, none⟩) 4 4) (m := markL) HBW.out ⟨_, U8at.marked w1 markL (by simp [markL]) _ rfl (4, 5)⟩ HIN.out (by intro x hx; simp [markL] at hx; omega) (by show 4 ≤ B.length; omega)).mono ?_
  rintro ev w2 ⟨rfl, rfl⟩
  have hmk : decide (B.take markL.length = markL) = false := decide_eq_false hmark
  rw [hmk]
  clear hmk
  go_wp2_with fail
  refine (vFault 2 _).mono ?_
  rintro ev w9 ⟨v, rfl, hv, hb⟩
  have HF : Hid (EPost (frameF B).1 (frameF B).2 w (.returned v) w9) := by rw [HP.out]; exact Lib.hid ⟨v, rfl, hv, bOn B2.out hb⟩
  clear hv hb HP
  go_wp2_with fail
  go_ret
  exact HF.out

set_option maxRecDepth 100000 in
set_option maxHeartbeats 4000000 in
theorem frame_ok (p0 : Option Addr) (c0 : Nat) (B : List Int) (w : World) (h : U8s w (.slice p0 B.length c0) B) (hin : In8 B) (hl : ¬ 65536 < B.length) (hs : ¬ B.length < 8) (hsum : sumB (B.take (B.length - 4)) = B.drop (B.length - 4)) (hmark : B.take 4 = markL) : Calls Tryz.prog 23 #[.slice p0 B.length c0] w (EPost (frameF B).1 (frameF B).2 w) := by
  have hP : frameF B = fltOK := by unfold frameF; rw [if_neg hl, if_neg hs, if_neg (by simpa using hsum), if_neg (by simpa using hmark)]
  have HP := Lib.hid hP
  clear hP
  have d1 : decide ((65536 : Int) < (B.length : Int)) = false := decide_eq_false (by omega)
  have d2 : decide ((B.length : Int) < 8) = false := decide_eq_false (by omega)
  have HOB := Lib.hid (OldB.of h)
  have hcap : B.length ≤ c0 := HOB.out.cap.2
  have HIN := Lib.hid hin
  clear h hin
  obtain ⟨M, hM⟩ : ∃ M : Nat, B.length = M + 4 := ⟨B.length - 4, by omega⟩
  have hM4 : B.length - 4 = M := by omega
  have hMi : (B.length : Int) - 4 = (M : Int) := by omega
  have hwM : IntKind.i64.wrap ((B.length : Int) - 4) = (M : Int) := by rw [hMi]; exact wrap_small (by omega) (by omega)
  have hMc : M ≤ c0 := by omega
  have hMl : M ≤ B.length := by omega
  have hBc : B.length ≤ c0 := hcap
  have HTK := Lib.hid (HIN.out.take M)
  obtain ⟨BB, hBB⟩ : ∃ BB, decide (B.drop M = sumB (B.take M)) = BB := ⟨_, rfl⟩
  have HDD := Lib.hid hBB
  have hbv : BB = true := by
    rw [← hBB]
    rw [hM4] at hsum
    exact decide_eq_true hsum.symm
  subst hbv
  have HM := Lib.hid hM
  clear hBB hMi hM hM4
  go_enter Tryz.func23, Tryz.ntmps23
  go_wp2_with fail
  have hGS : Grows (fun w' => Below w.heap.size w w') := Grows.below w
  refine' wp_growL _ (fun w' => Below w.heap.size w w') [[], [], [0, 1], [], [], [3, 4], [5], [2, 6], [7]] (Fact.lit _ :: Fact.lit _ :: Fact.lit _ :: Fact.lit _ :: Fact.lit _ :: Fact.lit _ :: Fact.prop _ _ :: Fact.lit _ :: Fact.lit _ :: []) (by kernel_rfl) rfl (by kernel_rfl) (Below.refl _ _).drew ?seqfc
  case' seqfc => skip
  iterate 2 ((first | (apply grow_skip; (case hf => rfl); (case hw => rfl)) | (apply grow_lit; (case hf => rfl); (case hw => rfl); (case hrun => (intro w' hS H; clear H; clear hS; go_simp; first | done | exact rfl)))); (case hc => (simp only [Act.put, List.setIfInBounds_toArray, List.set_cons_zero, List.set_cons_succ]; first | done | exact rfl)); (try (case hj => rfl)))
  (refine' grow_lit rfl ?wtL5 ?runL5 ?putL5 ?nextL5; (case wtL5 => rfl); (case runL5 => (intro w' hS H; clear H hS; go_simp; exact sl_part (p := p0) (c := c0) (a := M) (n := 4) (x := B.length - M) (y := c0 - M) (z := M) (by have := HM.out; omega) rfl rfl)); (case putL5 => (simp only [Act.put, List.setIfInBounds_toArray, List.set_cons_zero, List.set_cons_succ]; first | done | exact rfl)); (case' nextL5 => skip))
  iterate 2 ((first | (apply grow_skip; (case hf => rfl); (case hw => rfl)) | (apply grow_lit; (case hf => rfl); (case hw => rfl); (case hrun => (intro w' hS H; clear H; clear hS; go_simp; first | done | exact rfl)))); (case hc => (simp only [Act.put, List.setIfInBounds_toArray, List.set_cons_zero, List.set_cons_succ]; first | done | exact rfl)); (try (case hj => rfl)))
  (refine' grow_lit rfl ?wtL6 ?runL6 ?putL6 ?nextL6; (case wtL6 => rfl); (case runL6 => (intro w' hS H; clear H hS; go_simp; first | done | exact rfl)); (case putL6 => (simp only [Act.put, List.setIfInBounds_toArray, List.set_cons_zero, List.set_cons_succ]; first | done | exact rfl)); (case' nextL6 => skip))
  (refine' grow_callP (p := fun v w => U8s w v (sumB (B.take M))) (hp := fun v w w' h hb => U8s.below h hb) rfl Tryz.func42 (by kernel_rfl) rfl hGS rfl ?wt11 ?run11 ?put11 ?next11; (case wt11 => rfl); (case run11 => (intro w' hS H; exact (wsum_any _ (B.take M) w' ((HOB.out.keep hS).take M hMl) HTK.out).mono (fun e w2 ⟨v, z, h1, h2, h3, h4⟩ => ⟨v, h1, ⟨z, h2⟩, h4⟩))); (case put11 => (intro v; simp only [Act.put, List.setIfInBounds_toArray, List.set_cons_zero, List.set_cons_succ]; first | done | exact rfl)); (case' next11 => intro v6))
  (refine' grow_call (u := .bool true) rfl Tryz.func50 (by kernel_rfl) rfl hGS rfl ?wt12 ?run12 ?put12 ?next12; (case wt12 => rfl); (case run12 => (intro w' hS H; have h3 : U8s w' v6 (sumB (B.take M)) := H 6 (by decide); have h5 : U8s w' (.slice (moved p0 c0 M) 4 (c0 - M)) (B.drop M) := (by have h5 := (HOB.out.keep hS).part M 4 (by have := HM.out; omega); rwa [List.take_of_length_le (by have := HM.out; rw [List.length_drop]; omega)] at h5); exact (vEqual h5 h3 (HIN.out.drop M) (sumB_in8 _)).mono (fun ev w2 h => ⟨by rw [h.1, HDD.out], by rw [← h.2]; exact Below.refl _ _⟩))); (case put12 => (simp only [Act.put, List.setIfInBounds_toArray, List.set_cons_zero, List.set_cons_succ]; first | done | exact rfl)); (case' next12 => skip))
  iterate 1 ((first | (apply grow_skip; (case hf => rfl); (case hw => rfl)) | (apply grow_lit; (case hf => rfl); (case hw => rfl); (case hrun => (intro w' hS H; clear H; clear hS; go_simp; first | done | exact rfl)))); (case hc => (simp only [Act.put, List.setIfInBounds_toArray, List.set_cons_zero, List.set_cons_succ]; first | done | exact rfl)); (try (case hj => rfl)))
  intro w1 hb _
  have B1 := Lib.hid hb
  clear hb hGS HTK hwM
  have hcv := Lib.run_convert_bytes_const (P := Tryz.prog) w1 22 5 #[.int .u8 82, .int .u8 78, .int .u8 68, .int .u8 49] 4 4 Tryz.underlying22 Tryz.underlying5
  have HBW := Lib.hid (((HOB.out.keep B1.out).below (below_new8 (w := w1) (.cells #[.int .u8 82, .int .u8 78, .int .u8 68, .int .u8 49] 5 (4, 5)))).s)
  have B2 := Lib.hid (bOn B1.out (below_new8 (w := w1) (.cells #[.int .u8 82, .int .u8 78, .int .u8 68, .int .u8 49] 5 (4, 5))))
  clear B1
  go_wp2_with fail
  refine (vPrefix (u := .slice (some ⟨w1.heap.size, 0, none⟩) 4 4) (m := markL) HBW.out ⟨_, U8at.marked w1 markL (by simp [markL]) _ rfl (4, 5)⟩ HIN.out (by intro x hx; simp [markL] at hx; omega) (by show 4 ≤ B.length; omega)).mono ?_
  rintro ev w2 ⟨rfl, rfl⟩
  have hmk : decide (B.take markL.length = markL) = true := decide_eq_true hmark
  rw [hmk]
  clear hmk
  go_wp2_with fail
  have HF : Hid (EPost (frameF B).1 (frameF B).2 w (.returned .nilIface) (w1.alloc (.cells #[.int .u8 82, .int .u8 78, .int .u8 68, .int .u8 49] 5 (4, 5)))) := by rw [HP.out]; exact Lib.hid ⟨_, rfl, Or.inl ⟨rfl, rfl⟩, B2.out⟩
  clear HP
  go_ret
  exact HF.out

theorem vFrame (p0 : Option Addr) (c0 : Nat) (B : List Int) (w : World) (h : U8s w (.slice p0 B.length c0) B) (hin : In8 B) : Calls Tryz.prog 23 #[.slice p0 B.length c0] w (EPost (frameF B).1 (frameF B).2 w) := by
  by_cases hl : 65536 < B.length
  · exact frame_long p0 c0 B w hl
  · by_cases hs : B.length < 8
    · exact frame_short p0 c0 B w hl hs
    · by_cases hsum : sumB (B.take (B.length - 4)) = B.drop (B.length - 4)
      · by_cases hm : B.take 4 = markL
        · exact frame_ok p0 c0 B w h hin hl hs hsum hm
        · exact frame_form p0 c0 B w h hin hl hs hsum hm
      · exact frame_sum p0 c0 B w h hin hl hs hsum

end Go.Proofs.YtjapdbegfanfiaaGreatDoor
