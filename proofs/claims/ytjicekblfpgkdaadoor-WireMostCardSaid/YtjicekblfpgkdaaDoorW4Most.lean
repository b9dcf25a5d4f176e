/-
  A number up to most is read, one above it is not, and stays where it is; of both kinds. For every number and most. The half in which v is of at most that.
-/
import Derived.Test.YtjicekblfpgkdaaDoorKnown4
import Derived.Test.YtjicekblfpgkdaaDoorLaid4
namespace Go.Proofs.YtjicekblfpgkdaaDoor
open Go.ChangeShapes Go.WideShapes Go.ChangeAt Go.RowKit

/-- A pointer to a Wrong, of its own. -/
abbrev wrBlk (w : World) (k : Nat) (wv : Value) : Prop := ∃ q n c e, wv = .agg #[.slice q n c, .int .i64 e] ∧ Blk w k #[.slice q n c, .int .i64 e] 41

set_option maxHeartbeats 8000000 in
set_option maxRecDepth 100000 in
theorem most_111 (v M i A : Int) (w : World) (hg : ErrT w) (hv0 : 0 ≤ v) (hv1 : v ≤ 18446744073709551615) (hi0 : -9223372036854775808 ≤ i) (hi1 : i ≤ 9223372036854775807) (hV : v ≤ M) (hA : A ≤ M) (hN : i < 0) (hAi : A = 0 - i) :
    Calls Tryd.prog 5 #[.int .u64 v, .int .u64 M, .int .i64 i] w fun e w' => e = .returned (.bool true) ∧ Below w.heap.size w w' := by
  have hf := foldZ_in hi0 hi1
  have hrd := rd_enc hv0 hv1 []
  have hrd2 := rd_enc hf.1 hf.2 []
  rw [List.append_nil] at hrd hrd2
  have ham : amtZ (foldZ i) = A := by rw [amtZ_foldZ]; split <;> omega
  have hrU : uintR (enc v) 0 0 M = (v, (enc v).length, 0) := by unfold uintR; rw [if_pos rfl, List.drop_zero, hrd, if_pos rfl, if_neg (by show ¬ M < v; omega)]; simp
  have hrI : intR (enc (foldZ i)) 0 0 M = (i, (enc (foldZ i)).length, 0) := by unfold intR; rw [if_pos rfl, List.drop_zero, hrd2, if_pos rfl, if_neg (by show ¬ M < amtZ (foldZ i); omega)]; simp [unfZ_foldZ]
  clear hrd hrd2 ham hf
  have hX : IntKind.u64.wrap i = i + 18446744073709551616 := by simp [IntKind.wrap, IntKind.bits, IntKind.signed]; omega
  have hX2 : IntKind.u64.wrap (-(i + 18446744073709551616)) = A := by simp [IntKind.wrap, IntKind.bits, IntKind.signed]; omega
  clear hAi
  go_enter Tryd.func5, Tryd.ntmps5
  go_wp2_with fail
  have B_0 := Lib.hid (Below.refl w.heap.size w)
  have HG := Lib.hid hg
  clear hg
  refine (known4_any _ HG.out).mono ?_
  rintro ev w1 ⟨rfl, hb⟩
  have B_1 := Lib.hid (bOn B_0.out hb)
  clear hb B_0
  go_wp2_with fail
  refine (ruint_any v _ hv0 hv1).mono ?_
  rintro ev w2 ⟨u1, x1, rfl, h1, -, hb⟩
  have B_2 := Lib.hid (bOn B_1.out hb)
  have U_2 := Lib.hid (show U8s w2 u1 (enc v) from ⟨x1, h1⟩)
  clear hb B_1 h1
  go_wp2_with fail
  refine (new_any u1 (enc v) _ U_2.out (enc_in8 hv0 hv1) (by have := enc_len v; omega)).mono ?_
  rintro ev w3 ⟨b, rfl, hr, hb⟩
  have U_3 := Lib.hid (U_2.out.below hb)
  have B_3 := Lib.hid (bOn B_2.out hb)
  have z1 : w.heap.size ≤ b := by have h1 := hr.lt; have h2 := B_2.out.size; omega
  have R_3 := Lib.hid (hr)
  clear U_3
  clear hb U_2 B_2 hr
  go_wp2_with fail
  refine (rint_any i _ hi0 hi1).mono ?_
  rintro ev w4 ⟨u2, x2, rfl, h1, -, hb⟩
  have R_4 := Lib.hid (R_3.out.below hb)
  have B_4 := Lib.hid (bOn B_3.out hb)
  have U_4 := Lib.hid (show U8s w4 u2 (enc (foldZ i)) from ⟨x2, h1⟩)
  clear hb R_3 B_3 h1
  go_wp2_with fail
  refine (new_any u2 (enc (foldZ i)) _ U_4.out (enc_in8 (foldZ_in hi0 hi1).1 (foldZ_in hi0 hi1).2) (by have := enc_len (foldZ i); omega)).mono ?_
  rintro ev w5 ⟨c, rfl, hr, hb⟩
  have R_5 := Lib.hid (R_4.out.below hb)
  have U_5 := Lib.hid (U_4.out.below hb)
  have B_5 := Lib.hid (bOn B_4.out hb)
  have z2 : b < c := by have h1 := hr.lt; have h2 := R_4.out.lt; omega
  have z3 : b < w4.heap.size := R_4.out.lt.2.1
  have S_5 := Lib.hid (hr)
  clear U_5
  clear hb R_4 U_4 B_4 hr
  go_wp2_with fail
  refine (vU (V := v) (a' := (enc v).length) (e' := 0) R_5.out hrU).mono ?_
  rintro ev w6 ⟨rfl, hr, hb⟩
  have S_6 := Lib.hid (S_5.out.but hb (Or.inl z3))
  have B_6 := Lib.hid (bOnB B_5.out hb z1)
  have R_6 := Lib.hid (hr)
  clear hb R_5 S_5 B_5 hr
  go_wp2_with fail
  refine (vI (V := i) (a' := (enc (foldZ i)).length) (e' := 0) S_6.out hrI).mono ?_
  rintro ev w7 ⟨rfl, hr, hb⟩
  have R_7 := Lib.hid (R_6.out.but hb (Or.inr z2))
  have B_7 := Lib.hid (bOnB B_6.out hb (by omega))
  have S_7 := Lib.hid (hr)
  clear hb S_6 R_6 B_6 hr
  go_wp2_with fail
  refine (vAt6 0 8 _).mono ?_
  rintro ev w8 ⟨wv, rfl, h1, hb⟩
  have R_8 := Lib.hid (R_7.out.below hb)
  have S_8 := Lib.hid (S_7.out.below hb)
  have B_8 := Lib.hid (bOn B_7.out hb)
  have U_8 := Lib.hid (h1)
  clear hb R_7 S_7 B_7 h1
  obtain ⟨q, n, c2, hwv⟩ := U_8.out.2
  subst hwv
  go_wp2_with fail
  obtain ⟨W, hW⟩ := named (w8.alloc (.cells #[.slice q n c2, .int .i64 8] 41))
  rw [← hW]
  have hb : Below w8.heap.size w8 W := by rw [hW]; exact below_new8 _
  have KW : Hid (Blk W w8.heap.size #[.slice q n c2, .int .i64 8] 41) := by rw [hW]; exact Lib.hid (Blk.new _ _ _ _ rfl)
  have R := Lib.hid (R_8.out.below hb)
  have S := Lib.hid (S_8.out.below hb)
  have U := Lib.hid (U_8.out.below hb)
  have G := Lib.hid (HG.out.old (bOn B_8.out hb))
  have BB := Lib.hid (bOn B_8.out hb)
  clear hb hW HG R_8 S_8 U_8 B_8
  have d1 : decide (v ≤ M) = true := by simp; omega
  have d2 : decide (M < v) = false := by simp; omega
  have d3 : decide (A ≤ M) = true := by simp; omega
  have d4 : decide (M < A) = false := by simp; omega
  have hGS : Grows (fun w' => Below W.heap.size W w') := Grows.below W
  refine' wp_growL _ (fun w' => Below W.heap.size W w') [[], [], [0, 1], [2], [3], [3], [3, 4, 5], [3, 6], [7], [7, 8], [7, 9], [3, 7, 10], [3, 11], [12], [13], [13], [13, 14, 15], [13, 16], [17], [17, 18], [17, 19], [20], [20, 21], [20, 22], [17, 20, 23], [17, 24], [25], [25, 26], [25], [25, 27, 28], [25, 29], [17, 25, 30], [13, 17, 31], [13, 32]] (Fact.lit _ :: Fact.lit _ :: Fact.lit _ :: Fact.lit _ :: Fact.lit _ :: Fact.lit _ :: Fact.lit _ :: Fact.lit _ :: Fact.lit _ :: Fact.lit _ :: Fact.lit _ :: Fact.lit _ :: Fact.lit _ :: Fact.lit _ :: Fact.lit _ :: Fact.lit _ :: Fact.lit _ :: Fact.lit _ :: Fact.lit _ :: Fact.lit _ :: Fact.lit _ :: Fact.lit _ :: Fact.lit _ :: Fact.lit _ :: Fact.lit _ :: Fact.lit _ :: Fact.lit _ :: Fact.lit _ :: Fact.lit _ :: Fact.lit _ :: Fact.lit _ :: Fact.lit _ :: Fact.lit _ :: Fact.lit _ :: []) (by kernel_rfl) rfl (by kernel_rfl) (Below.refl _ _).drew ?seqp
  case' seqp => skip
  (first | (refine' grow_skip rfl ?wt1 ?put1 ?next1; (case wt1 => rfl)) | (refine' grow_lit rfl ?wt1 ?run1 ?put1 ?next1; (case wt1 => rfl); (case run1 => (intro w' hS H; clear H; (obtain ⟨g0, g1, -, -⟩ := (KW.out.keep hS).o2); clear hS; go_simp; first | done | exact rfl)))); (case put1 => (simp only [Act.put, List.setIfInBounds_toArray, List.set_cons_zero, List.set_cons_succ]; first | done | exact rfl)); (case' next1 => skip)
  (first | (refine' grow_skip rfl ?wt2 ?put2 ?next2; (case wt2 => rfl)) | (refine' grow_lit rfl ?wt2 ?run2 ?put2 ?next2; (case wt2 => rfl); (case run2 => (intro w' hS H; clear H; (obtain ⟨g0, g1, -, -⟩ := (KW.out.keep hS).o2); clear hS; go_simp; first | done | exact rfl)))); (case put2 => (simp only [Act.put, List.setIfInBounds_toArray, List.set_cons_zero, List.set_cons_succ]; first | done | exact rfl)); (case' next2 => skip)
  (first | (refine' grow_skip rfl ?wt3 ?put3 ?next3; (case wt3 => rfl)) | (refine' grow_lit rfl ?wt3 ?run3 ?put3 ?next3; (case wt3 => rfl); (case run3 => (intro w' hS H; clear H; (obtain ⟨g0, g1, -, -⟩ := (KW.out.keep hS).o2); clear hS; go_simp; first | done | exact rfl)))); (case put3 => (simp only [Act.put, List.setIfInBounds_toArray, List.set_cons_zero, List.set_cons_succ]; first | done | exact rfl)); (case' next3 => skip)
  (first | (refine' grow_skip rfl ?wt4 ?put4 ?next4; (case wt4 => rfl)) | (refine' grow_lit rfl ?wt4 ?run4 ?put4 ?next4; (case wt4 => rfl); (case run4 => (intro w' hS H; clear H; (obtain ⟨g0, g1, -, -⟩ := (KW.out.keep hS).o2); clear hS; go_simp; first | done | exact rfl)))); (case put4 => (simp only [Act.put, List.setIfInBounds_toArray, List.set_cons_zero, List.set_cons_succ]; first | done | exact rfl)); (case' next4 => skip)
  (first | (refine' grow_skip rfl ?wt5 ?put5 ?next5; (case wt5 => rfl)) | (refine' grow_lit rfl ?wt5 ?run5 ?put5 ?next5; (case wt5 => rfl); (case run5 => (intro w' hS H; clear H; (obtain ⟨g0, g1, -, -⟩ := (KW.out.keep hS).o2); clear hS; go_simp; first | done | exact rfl)))); (case put5 => (simp only [Act.put, List.setIfInBounds_toArray, List.set_cons_zero, List.set_cons_succ]; first | done | exact rfl)); (case' next5 => skip)
  (first | (refine' grow_skip rfl ?wt6 ?put6 ?next6; (case wt6 => rfl)) | (refine' grow_lit rfl ?wt6 ?run6 ?put6 ?next6; (case wt6 => rfl); (case run6 => (intro w' hS H; clear H; (obtain ⟨g0, g1, -, -⟩ := (KW.out.keep hS).o2); clear hS; go_simp; first | done | exact rfl)))); (case put6 => (simp only [Act.put, List.setIfInBounds_toArray, List.set_cons_zero, List.set_cons_succ]; first | done | exact rfl)); (case' next6 => skip)
  (first | (refine' grow_skip rfl ?wt7 ?put7 ?next7; (case wt7 => rfl)) | (refine' grow_lit rfl ?wt7 ?run7 ?put7 ?next7; (case wt7 => rfl); (case run7 => (intro w' hS H; clear H; (obtain ⟨g0, g1, -, -⟩ := (KW.out.keep hS).o2); clear hS; go_simp; first | done | exact rfl)))); (case put7 => (simp only [Act.put, List.setIfInBounds_toArray, List.set_cons_zero, List.set_cons_succ]; first | done | exact rfl)); (case' next7 => skip)
  (first | (refine' grow_skip rfl ?wt8 ?put8 ?next8; (case wt8 => rfl)) | (refine' grow_lit rfl ?wt8 ?run8 ?put8 ?next8; (case wt8 => rfl); (case run8 => (intro w' hS H; clear H; (obtain ⟨g0, g1, -, -⟩ := (KW.out.keep hS).o2); clear hS; go_simp; first | done | exact rfl)))); (case put8 => (simp only [Act.put, List.setIfInBounds_toArray, List.set_cons_zero, List.set_cons_succ]; first | done | exact rfl)); (case' next8 => skip)
  (first | (refine' grow_skip rfl ?wt9 ?put9 ?next9; (case wt9 => rfl)) | (refine' grow_lit rfl ?wt9 ?run9 ?put9 ?next9; (case wt9 => rfl); (case run9 => (intro w' hS H; clear H; (obtain ⟨g0, g1, -, -⟩ := (KW.out.keep hS).o2); clear hS; go_simp; first | done | exact rfl)))); (case put9 => (simp only [Act.put, List.setIfInBounds_toArray, List.set_cons_zero, List.set_cons_succ]; first | done | exact rfl)); (case' next9 => skip)
  (refine' grow_call (u := .nilIface) rfl Tryd.func16 (by kernel_rfl) rfl hGS rfl ?wt261 ?run261 ?put261 ?next261; (case wt261 => rfl); (case run261 => (intro w' hS H; exact vDone0 (R.out.below hS) (Nat.lt_irrefl _))); (case put261 => (simp only [Act.put, List.setIfInBounds_toArray, List.set_cons_zero, List.set_cons_succ]; first | done | exact rfl)); (case' next261 => skip))
  (first | (refine' grow_skip rfl ?wt10 ?put10 ?next10; (case wt10 => rfl)) | (refine' grow_lit rfl ?wt10 ?run10 ?put10 ?next10; (case wt10 => rfl); (case run10 => (intro w' hS H; clear H; (obtain ⟨g0, g1, -, -⟩ := (KW.out.keep hS).o2); clear hS; go_simp; first | done | exact rfl)))); (case put10 => (simp only [Act.put, List.setIfInBounds_toArray, List.set_cons_zero, List.set_cons_succ]; first | done | exact rfl)); (case' next10 => skip)
  (first | (refine' grow_skip rfl ?wt11 ?put11 ?next11; (case wt11 => rfl)) | (refine' grow_lit rfl ?wt11 ?run11 ?put11 ?next11; (case wt11 => rfl); (case run11 => (intro w' hS H; clear H; (obtain ⟨g0, g1, -, -⟩ := (KW.out.keep hS).o2); clear hS; go_simp; first | done | exact rfl)))); (case put11 => (simp only [Act.put, List.setIfInBounds_toArray, List.set_cons_zero, List.set_cons_succ]; first | done | exact rfl)); (case' next11 => skip)
  (first | (refine' grow_skip rfl ?wt12 ?put12 ?next12; (case wt12 => rfl)) | (refine' grow_lit rfl ?wt12 ?run12 ?put12 ?next12; (case wt12 => rfl); (case run12 => (intro w' hS H; clear H; (obtain ⟨g0, g1, -, -⟩ := (KW.out.keep hS).o2); clear hS; go_simp; first | done | exact rfl)))); (case put12 => (simp only [Act.put, List.setIfInBounds_toArray, List.set_cons_zero, List.set_cons_succ]; first | done | exact rfl)); (case' next12 => skip)
  (first | (refine' grow_skip rfl ?wt13 ?put13 ?next13; (case wt13 => rfl)) | (refine' grow_lit rfl ?wt13 ?run13 ?put13 ?next13; (case wt13 => rfl); (case run13 => (intro w' hS H; clear H; (obtain ⟨g0, g1, -, -⟩ := (KW.out.keep hS).o2); clear hS; go_simp; first | done | exact rfl)))); (case put13 => (simp only [Act.put, List.setIfInBounds_toArray, List.set_cons_zero, List.set_cons_succ]; first | done | exact rfl)); (case' next13 => skip)
  (first | (refine' grow_skip rfl ?wt14 ?put14 ?next14; (case wt14 => rfl)) | (refine' grow_lit rfl ?wt14 ?run14 ?put14 ?next14; (case wt14 => rfl); (case run14 => (intro w' hS H; clear H; (obtain ⟨g0, g1, -, -⟩ := (KW.out.keep hS).o2); clear hS; go_simp; first | done | exact rfl)))); (case put14 => (simp only [Act.put, List.setIfInBounds_toArray, List.set_cons_zero, List.set_cons_succ]; first | done | exact rfl)); (case' next14 => skip)
  (first | (refine' grow_skip rfl ?wt15 ?put15 ?next15; (case wt15 => rfl)) | (refine' grow_lit rfl ?wt15 ?run15 ?put15 ?next15; (case wt15 => rfl); (case run15 => (intro w' hS H; clear H; (obtain ⟨g0, g1, -, -⟩ := (KW.out.keep hS).o2); clear hS; go_simp; first | done | exact rfl)))); (case put15 => (simp only [Act.put, List.setIfInBounds_toArray, List.set_cons_zero, List.set_cons_succ]; first | done | exact rfl)); (case' next15 => skip)
  (first | (refine' grow_skip rfl ?wt16 ?put16 ?next16; (case wt16 => rfl)) | (refine' grow_lit rfl ?wt16 ?run16 ?put16 ?next16; (case wt16 => rfl); (case run16 => (intro w' hS H; clear H; (obtain ⟨g0, g1, -, -⟩ := (KW.out.keep hS).o2); clear hS; go_simp; first | done | exact rfl)))); (case put16 => (simp only [Act.put, List.setIfInBounds_toArray, List.set_cons_zero, List.set_cons_succ]; first | done | exact rfl)); (case' next16 => skip)
  (first | (refine' grow_skip rfl ?wt17 ?put17 ?next17; (case wt17 => rfl)) | (refine' grow_lit rfl ?wt17 ?run17 ?put17 ?next17; (case wt17 => rfl); (case run17 => (intro w' hS H; clear H; (obtain ⟨g0, g1, -, -⟩ := (KW.out.keep hS).o2); clear hS; go_simp; first | done | exact rfl)))); (case put17 => (simp only [Act.put, List.setIfInBounds_toArray, List.set_cons_zero, List.set_cons_succ]; first | done | exact rfl)); (case' next17 => skip)
  (first | (refine' grow_skip rfl ?wt18 ?put18 ?next18; (case wt18 => rfl)) | (refine' grow_lit rfl ?wt18 ?run18 ?put18 ?next18; (case wt18 => rfl); (case run18 => (intro w' hS H; clear H; (obtain ⟨g0, g1, -, -⟩ := (KW.out.keep hS).o2); clear hS; go_simp; first | done | exact rfl)))); (case put18 => (simp only [Act.put, List.setIfInBounds_toArray, List.set_cons_zero, List.set_cons_succ]; first | done | exact rfl)); (case' next18 => skip)
  (first | (refine' grow_skip rfl ?wt19 ?put19 ?next19; (case wt19 => rfl)) | (refine' grow_lit rfl ?wt19 ?run19 ?put19 ?next19; (case wt19 => rfl); (case run19 => (intro w' hS H; clear H; (obtain ⟨g0, g1, -, -⟩ := (KW.out.keep hS).o2); clear hS; go_simp; first | done | exact rfl)))); (case put19 => (simp only [Act.put, List.setIfInBounds_toArray, List.set_cons_zero, List.set_cons_succ]; first | done | exact rfl)); (case' next19 => skip)
  (first | (refine' grow_skip rfl ?wt20 ?put20 ?next20; (case wt20 => rfl)) | (refine' grow_lit rfl ?wt20 ?run20 ?put20 ?next20; (case wt20 => rfl); (case run20 => (intro w' hS H; clear H; (obtain ⟨g0, g1, -, -⟩ := (KW.out.keep hS).o2); clear hS; go_simp; first | done | exact rfl)))); (case put20 => (simp only [Act.put, List.setIfInBounds_toArray, List.set_cons_zero, List.set_cons_succ]; first | done | exact rfl)); (case' next20 => skip)
  (first | (refine' grow_skip rfl ?wt21 ?put21 ?next21; (case wt21 => rfl)) | (refine' grow_lit rfl ?wt21 ?run21 ?put21 ?next21; (case wt21 => rfl); (case run21 => (intro w' hS H; clear H; (obtain ⟨g0, g1, -, -⟩ := (KW.out.keep hS).o2); clear hS; go_simp; first | done | exact rfl)))); (case put21 => (simp only [Act.put, List.setIfInBounds_toArray, List.set_cons_zero, List.set_cons_succ]; first | done | exact rfl)); (case' next21 => skip)
  (first | (refine' grow_skip rfl ?wt22 ?put22 ?next22; (case wt22 => rfl)) | (refine' grow_lit rfl ?wt22 ?run22 ?put22 ?next22; (case wt22 => rfl); (case run22 => (intro w' hS H; clear H; (obtain ⟨g0, g1, -, -⟩ := (KW.out.keep hS).o2); clear hS; go_simp; first | done | exact rfl)))); (case put22 => (simp only [Act.put, List.setIfInBounds_toArray, List.set_cons_zero, List.set_cons_succ]; first | done | exact rfl)); (case' next22 => skip)
  (first | (refine' grow_skip rfl ?wt23 ?put23 ?next23; (case wt23 => rfl)) | (refine' grow_lit rfl ?wt23 ?run23 ?put23 ?next23; (case wt23 => rfl); (case run23 => (intro w' hS H; clear H; (obtain ⟨g0, g1, -, -⟩ := (KW.out.keep hS).o2); clear hS; go_simp; first | done | exact rfl)))); (case put23 => (simp only [Act.put, List.setIfInBounds_toArray, List.set_cons_zero, List.set_cons_succ]; first | done | exact rfl)); (case' next23 => skip)
  (first | (refine' grow_skip rfl ?wt24 ?put24 ?next24; (case wt24 => rfl)) | (refine' grow_lit rfl ?wt24 ?run24 ?put24 ?next24; (case wt24 => rfl); (case run24 => (intro w' hS H; clear H; (obtain ⟨g0, g1, -, -⟩ := (KW.out.keep hS).o2); clear hS; go_simp; first | done | exact rfl)))); (case put24 => (simp only [Act.put, List.setIfInBounds_toArray, List.set_cons_zero, List.set_cons_succ]; first | done | exact rfl)); (case' next24 => skip)
  (first | (refine' grow_skip rfl ?wt25 ?put25 ?next25; (case wt25 => rfl)) | (refine' grow_lit rfl ?wt25 ?run25 ?put25 ?next25; (case wt25 => rfl); (case run25 => (intro w' hS H; clear H; (obtain ⟨g0, g1, -, -⟩ := (KW.out.keep hS).o2); clear hS; go_simp; first | done | exact rfl)))); (case put25 => (simp only [Act.put, List.setIfInBounds_toArray, List.set_cons_zero, List.set_cons_succ]; first | done | exact rfl)); (case' next25 => skip)
  (first | (refine' grow_skip rfl ?wt26 ?put26 ?next26; (case wt26 => rfl)) | (refine' grow_lit rfl ?wt26 ?run26 ?put26 ?next26; (case wt26 => rfl); (case run26 => (intro w' hS H; clear H; (obtain ⟨g0, g1, -, -⟩ := (KW.out.keep hS).o2); clear hS; go_simp; first | done | exact rfl)))); (case put26 => (simp only [Act.put, List.setIfInBounds_toArray, List.set_cons_zero, List.set_cons_succ]; first | done | exact rfl)); (case' next26 => skip)
  (first | (refine' grow_skip rfl ?wt27 ?put27 ?next27; (case wt27 => rfl)) | (refine' grow_lit rfl ?wt27 ?run27 ?put27 ?next27; (case wt27 => rfl); (case run27 => (intro w' hS H; clear H; (obtain ⟨g0, g1, -, -⟩ := (KW.out.keep hS).o2); clear hS; go_simp; first | done | exact rfl)))); (case put27 => (simp only [Act.put, List.setIfInBounds_toArray, List.set_cons_zero, List.set_cons_succ]; first | done | exact rfl)); (case' next27 => skip)
  (first | (refine' grow_skip rfl ?wt28 ?put28 ?next28; (case wt28 => rfl)) | (refine' grow_lit rfl ?wt28 ?run28 ?put28 ?next28; (case wt28 => rfl); (case run28 => (intro w' hS H; clear H; (obtain ⟨g0, g1, -, -⟩ := (KW.out.keep hS).o2); clear hS; go_simp; first | done | exact rfl)))); (case put28 => (simp only [Act.put, List.setIfInBounds_toArray, List.set_cons_zero, List.set_cons_succ]; first | done | exact rfl)); (case' next28 => skip)
  (first | (refine' grow_skip rfl ?wt29 ?put29 ?next29; (case wt29 => rfl)) | (refine' grow_lit rfl ?wt29 ?run29 ?put29 ?next29; (case wt29 => rfl); (case run29 => (intro w' hS H; clear H; (obtain ⟨g0, g1, -, -⟩ := (KW.out.keep hS).o2); clear hS; go_simp; first | done | exact rfl)))); (case put29 => (simp only [Act.put, List.setIfInBounds_toArray, List.set_cons_zero, List.set_cons_succ]; first | done | exact rfl)); (case' next29 => skip)
  (first | (refine' grow_skip rfl ?wt30 ?put30 ?next30; (case wt30 => rfl)) | (refine' grow_lit rfl ?wt30 ?run30 ?put30 ?next30; (case wt30 => rfl); (case run30 => (intro w' hS H; clear H; (obtain ⟨g0, g1, -, -⟩ := (KW.out.keep hS).o2); clear hS; go_simp; first | done | exact rfl)))); (case put30 => (simp only [Act.put, List.setIfInBounds_toArray, List.set_cons_zero, List.set_cons_succ]; first | done | exact rfl)); (case' next30 => skip)
  (first | (refine' grow_skip rfl ?wt31 ?put31 ?next31; (case wt31 => rfl)) | (refine' grow_lit rfl ?wt31 ?run31 ?put31 ?next31; (case wt31 => rfl); (case run31 => (intro w' hS H; clear H; (obtain ⟨g0, g1, -, -⟩ := (KW.out.keep hS).o2); clear hS; go_simp; first | done | exact rfl)))); (case put31 => (simp only [Act.put, List.setIfInBounds_toArray, List.set_cons_zero, List.set_cons_succ]; first | done | exact rfl)); (case' next31 => skip)
  (first | (refine' grow_skip rfl ?wt32 ?put32 ?next32; (case wt32 => rfl)) | (refine' grow_lit rfl ?wt32 ?run32 ?put32 ?next32; (case wt32 => rfl); (case run32 => (intro w' hS H; clear H; (obtain ⟨g0, g1, -, -⟩ := (KW.out.keep hS).o2); clear hS; go_simp; first | done | exact rfl)))); (case put32 => (simp only [Act.put, List.setIfInBounds_toArray, List.set_cons_zero, List.set_cons_succ]; first | done | exact rfl)); (case' next32 => skip)
  (first | (refine' grow_skip rfl ?wt33 ?put33 ?next33; (case wt33 => rfl)) | (refine' grow_lit rfl ?wt33 ?run33 ?put33 ?next33; (case wt33 => rfl); (case run33 => (intro w' hS H; clear H; (obtain ⟨g0, g1, -, -⟩ := (KW.out.keep hS).o2); clear hS; go_simp; first | done | exact rfl)))); (case put33 => (simp only [Act.put, List.setIfInBounds_toArray, List.set_cons_zero, List.set_cons_succ]; first | done | exact rfl)); (case' next33 => skip)
  intro w9 hb _
  have B1 := Lib.hid (bOn BB.out hb)
  have KW1 := Lib.hid (KW.out.keep hb)
  have S1 := Lib.hid (S.out.below hb)
  have U1 := Lib.hid (U.out.below hb)
  have G1 := Lib.hid (ErrT.old hb G.out)
  clear hb hGS R S U G BB KW
  have S := S1
  have U := U1
  have G := G1
  have KW := KW1
  have BB := B1
  clear S1 U1 G1 B1 KW1
  go_wp2_with fail
  have hGS : Grows (fun w' => Below w9.heap.size w9 w') := Grows.below w9
  refine' wp_growL _ (fun w' => Below w9.heap.size w9 w') [[], [], [0, 1], [2], [3], [3], [3, 4, 5], [3, 6], [7], [8], [8, 9], [8, 10], [8, 11], [12], [13], [13], [13, 14, 15], [13, 16], [17], [17, 18], [13, 17, 19], [13, 20], [21], [21, 22], [21, 23], [13, 21, 24], [13, 25], [26], [26, 27], [26], [26, 28, 29], [13, 26, 30], [13, 31], [32]] (Fact.lit _ :: Fact.lit _ :: Fact.lit _ :: Fact.lit _ :: Fact.lit _ :: Fact.lit _ :: Fact.lit _ :: Fact.lit _ :: Fact.lit _ :: Fact.lit _ :: Fact.lit _ :: Fact.lit _ :: Fact.lit _ :: Fact.lit _ :: Fact.lit _ :: Fact.lit _ :: Fact.lit _ :: Fact.lit _ :: Fact.lit _ :: Fact.lit _ :: Fact.lit _ :: Fact.lit _ :: Fact.lit _ :: Fact.lit _ :: Fact.lit _ :: Fact.lit _ :: Fact.lit _ :: Fact.lit _ :: Fact.lit _ :: Fact.lit _ :: Fact.lit _ :: Fact.lit _ :: Fact.lit _ :: Fact.lit _ :: []) (by kernel_rfl) rfl (by kernel_rfl) (Below.refl _ _).drew ?seqq
  case' seqq => skip
  (first | (refine' grow_skip rfl ?wt34 ?put34 ?next34; (case wt34 => rfl)) | (refine' grow_lit rfl ?wt34 ?run34 ?put34 ?next34; (case wt34 => rfl); (case run34 => (intro w' hS H; clear H; (obtain ⟨g0, g1, -, -⟩ := (KW.out.keep hS).o2); clear hS; go_simp; first | done | exact rfl)))); (case put34 => (simp only [Act.put, List.setIfInBounds_toArray, List.set_cons_zero, List.set_cons_succ]; first | done | exact rfl)); (case' next34 => skip)
  (first | (refine' grow_skip rfl ?wt35 ?put35 ?next35; (case wt35 => rfl)) | (refine' grow_lit rfl ?wt35 ?run35 ?put35 ?next35; (case wt35 => rfl); (case run35 => (intro w' hS H; clear H; (obtain ⟨g0, g1, -, -⟩ := (KW.out.keep hS).o2); clear hS; go_simp; first | done | exact rfl)))); (case put35 => (simp only [Act.put, List.setIfInBounds_toArray, List.set_cons_zero, List.set_cons_succ]; first | done | exact rfl)); (case' next35 => skip)
  (first | (refine' grow_skip rfl ?wt36 ?put36 ?next36; (case wt36 => rfl)) | (refine' grow_lit rfl ?wt36 ?run36 ?put36 ?next36; (case wt36 => rfl); (case run36 => (intro w' hS H; clear H; (obtain ⟨g0, g1, -, -⟩ := (KW.out.keep hS).o2); clear hS; go_simp; first | done | exact rfl)))); (case put36 => (simp only [Act.put, List.setIfInBounds_toArray, List.set_cons_zero, List.set_cons_succ]; first | done | exact rfl)); (case' next36 => skip)
  (first | (refine' grow_skip rfl ?wt37 ?put37 ?next37; (case wt37 => rfl)) | (refine' grow_lit rfl ?wt37 ?run37 ?put37 ?next37; (case wt37 => rfl); (case run37 => (intro w' hS H; clear H; (obtain ⟨g0, g1, -, -⟩ := (KW.out.keep hS).o2); clear hS; go_simp; first | done | exact rfl)))); (case put37 => (simp only [Act.put, List.setIfInBounds_toArray, List.set_cons_zero, List.set_cons_succ]; first | done | exact rfl)); (case' next37 => skip)
  (first | (refine' grow_skip rfl ?wt38 ?put38 ?next38; (case wt38 => rfl)) | (refine' grow_lit rfl ?wt38 ?run38 ?put38 ?next38; (case wt38 => rfl); (case run38 => (intro w' hS H; clear H; (obtain ⟨g0, g1, -, -⟩ := (KW.out.keep hS).o2); clear hS; go_simp; first | done | exact rfl)))); (case put38 => (simp only [Act.put, List.setIfInBounds_toArray, List.set_cons_zero, List.set_cons_succ]; first | done | exact rfl)); (case' next38 => skip)
  (first | (refine' grow_skip rfl ?wt39 ?put39 ?next39; (case wt39 => rfl)) | (refine' grow_lit rfl ?wt39 ?run39 ?put39 ?next39; (case wt39 => rfl); (case run39 => (intro w' hS H; clear H; (obtain ⟨g0, g1, -, -⟩ := (KW.out.keep hS).o2); clear hS; go_simp; first | done | exact rfl)))); (case put39 => (simp only [Act.put, List.setIfInBounds_toArray, List.set_cons_zero, List.set_cons_succ]; first | done | exact rfl)); (case' next39 => skip)
  (first | (refine' grow_skip rfl ?wt40 ?put40 ?next40; (case wt40 => rfl)) | (refine' grow_lit rfl ?wt40 ?run40 ?put40 ?next40; (case wt40 => rfl); (case run40 => (intro w' hS H; clear H; (obtain ⟨g0, g1, -, -⟩ := (KW.out.keep hS).o2); clear hS; go_simp; first | done | exact rfl)))); (case put40 => (simp only [Act.put, List.setIfInBounds_toArray, List.set_cons_zero, List.set_cons_succ]; first | done | exact rfl)); (case' next40 => skip)
  (first | (refine' grow_skip rfl ?wt41 ?put41 ?next41; (case wt41 => rfl)) | (refine' grow_lit rfl ?wt41 ?run41 ?put41 ?next41; (case wt41 => rfl); (case run41 => (intro w' hS H; clear H; (obtain ⟨g0, g1, -, -⟩ := (KW.out.keep hS).o2); clear hS; go_simp; first | done | exact rfl)))); (case put41 => (simp only [Act.put, List.setIfInBounds_toArray, List.set_cons_zero, List.set_cons_succ]; first | done | exact rfl)); (case' next41 => skip)
  (first | (refine' grow_skip rfl ?wt42 ?put42 ?next42; (case wt42 => rfl)) | (refine' grow_lit rfl ?wt42 ?run42 ?put42 ?next42; (case wt42 => rfl); (case run42 => (intro w' hS H; clear H; (obtain ⟨g0, g1, -, -⟩ := (KW.out.keep hS).o2); clear hS; go_simp; first | done | exact rfl)))); (case put42 => (simp only [Act.put, List.setIfInBounds_toArray, List.set_cons_zero, List.set_cons_succ]; first | done | exact rfl)); (case' next42 => skip)
  (first | (refine' grow_skip rfl ?wt43 ?put43 ?next43; (case wt43 => rfl)) | (refine' grow_lit rfl ?wt43 ?run43 ?put43 ?next43; (case wt43 => rfl); (case run43 => (intro w' hS H; clear H; (obtain ⟨g0, g1, -, -⟩ := (KW.out.keep hS).o2); clear hS; go_simp; first | done | exact rfl)))); (case put43 => (simp only [Act.put, List.setIfInBounds_toArray, List.set_cons_zero, List.set_cons_succ]; first | done | exact rfl)); (case' next43 => skip)
  (refine' grow_call (u := .nilIface) rfl Tryd.func16 (by kernel_rfl) rfl hGS rfl ?wt262 ?run262 ?put262 ?next262; (case wt262 => rfl); (case run262 => (intro w' hS H; exact vDone0 (S.out.below hS) (Nat.lt_irrefl _))); (case put262 => (simp only [Act.put, List.setIfInBounds_toArray, List.set_cons_zero, List.set_cons_succ]; first | done | exact rfl)); (case' next262 => skip))
  (first | (refine' grow_skip rfl ?wt44 ?put44 ?next44; (case wt44 => rfl)) | (refine' grow_lit rfl ?wt44 ?run44 ?put44 ?next44; (case wt44 => rfl); (case run44 => (intro w' hS H; clear H; (obtain ⟨g0, g1, -, -⟩ := (KW.out.keep hS).o2); clear hS; go_simp; first | done | exact rfl)))); (case put44 => (simp only [Act.put, List.setIfInBounds_toArray, List.set_cons_zero, List.set_cons_succ]; first | done | exact rfl)); (case' next44 => skip)
  (first | (refine' grow_skip rfl ?wt45 ?put45 ?next45; (case wt45 => rfl)) | (refine' grow_lit rfl ?wt45 ?run45 ?put45 ?next45; (case wt45 => rfl); (case run45 => (intro w' hS H; clear H; (obtain ⟨g0, g1, -, -⟩ := (KW.out.keep hS).o2); clear hS; go_simp; first | done | exact rfl)))); (case put45 => (simp only [Act.put, List.setIfInBounds_toArray, List.set_cons_zero, List.set_cons_succ]; first | done | exact rfl)); (case' next45 => skip)
  (first | (refine' grow_skip rfl ?wt46 ?put46 ?next46; (case wt46 => rfl)) | (refine' grow_lit rfl ?wt46 ?run46 ?put46 ?next46; (case wt46 => rfl); (case run46 => (intro w' hS H; clear H; (obtain ⟨g0, g1, -, -⟩ := (KW.out.keep hS).o2); clear hS; go_simp; first | done | exact rfl)))); (case put46 => (simp only [Act.put, List.setIfInBounds_toArray, List.set_cons_zero, List.set_cons_succ]; first | done | exact rfl)); (case' next46 => skip)
  (first | (refine' grow_skip rfl ?wt47 ?put47 ?next47; (case wt47 => rfl)) | (refine' grow_lit rfl ?wt47 ?run47 ?put47 ?next47; (case wt47 => rfl); (case run47 => (intro w' hS H; clear H; (obtain ⟨g0, g1, -, -⟩ := (KW.out.keep hS).o2); clear hS; go_simp; first | done | exact rfl)))); (case put47 => (simp only [Act.put, List.setIfInBounds_toArray, List.set_cons_zero, List.set_cons_succ]; first | done | exact rfl)); (case' next47 => skip)
  (first | (refine' grow_skip rfl ?wt48 ?put48 ?next48; (case wt48 => rfl)) | (refine' grow_lit rfl ?wt48 ?run48 ?put48 ?next48; (case wt48 => rfl); (case run48 => (intro w' hS H; clear H; (obtain ⟨g0, g1, -, -⟩ := (KW.out.keep hS).o2); clear hS; go_simp; first | done | exact rfl)))); (case put48 => (simp only [Act.put, List.setIfInBounds_toArray, List.set_cons_zero, List.set_cons_succ]; first | done | exact rfl)); (case' next48 => skip)
  (first | (refine' grow_skip rfl ?wt49 ?put49 ?next49; (case wt49 => rfl)) | (refine' grow_lit rfl ?wt49 ?run49 ?put49 ?next49; (case wt49 => rfl); (case run49 => (intro w' hS H; clear H; (obtain ⟨g0, g1, -, -⟩ := (KW.out.keep hS).o2); clear hS; go_simp; first | done | exact rfl)))); (case put49 => (simp only [Act.put, List.setIfInBounds_toArray, List.set_cons_zero, List.set_cons_succ]; first | done | exact rfl)); (case' next49 => skip)
  (first | (refine' grow_skip rfl ?wt50 ?put50 ?next50; (case wt50 => rfl)) | (refine' grow_lit rfl ?wt50 ?run50 ?put50 ?next50; (case wt50 => rfl); (case run50 => (intro w' hS H; clear H; (obtain ⟨g0, g1, -, -⟩ := (KW.out.keep hS).o2); clear hS; go_simp; first | done | exact rfl)))); (case put50 => (simp only [Act.put, List.setIfInBounds_toArray, List.set_cons_zero, List.set_cons_succ]; first | done | exact rfl)); (case' next50 => skip)
  (first | (refine' grow_skip rfl ?wt51 ?put51 ?next51; (case wt51 => rfl)) | (refine' grow_lit rfl ?wt51 ?run51 ?put51 ?next51; (case wt51 => rfl); (case run51 => (intro w' hS H; clear H; (obtain ⟨g0, g1, -, -⟩ := (KW.out.keep hS).o2); clear hS; go_simp; first | done | exact rfl)))); (case put51 => (simp only [Act.put, List.setIfInBounds_toArray, List.set_cons_zero, List.set_cons_succ]; first | done | exact rfl)); (case' next51 => skip)
  (first | (refine' grow_skip rfl ?wt52 ?put52 ?next52; (case wt52 => rfl)) | (refine' grow_lit rfl ?wt52 ?run52 ?put52 ?next52; (case wt52 => rfl); (case run52 => (intro w' hS H; clear H; (obtain ⟨g0, g1, -, -⟩ := (KW.out.keep hS).o2); clear hS; go_simp; first | done | exact rfl)))); (case put52 => (simp only [Act.put, List.setIfInBounds_toArray, List.set_cons_zero, List.set_cons_succ]; first | done | exact rfl)); (case' next52 => skip)
  (first | (refine' grow_skip rfl ?wt53 ?put53 ?next53; (case wt53 => rfl)) | (refine' grow_lit rfl ?wt53 ?run53 ?put53 ?next53; (case wt53 => rfl); (case run53 => (intro w' hS H; clear H; (obtain ⟨g0, g1, -, -⟩ := (KW.out.keep hS).o2); clear hS; go_simp; first | done | exact rfl)))); (case put53 => (simp only [Act.put, List.setIfInBounds_toArray, List.set_cons_zero, List.set_cons_succ]; first | done | exact rfl)); (case' next53 => skip)
  (first | (refine' grow_skip rfl ?wt54 ?put54 ?next54; (case wt54 => rfl)) | (refine' grow_lit rfl ?wt54 ?run54 ?put54 ?next54; (case wt54 => rfl); (case run54 => (intro w' hS H; clear H; (obtain ⟨g0, g1, -, -⟩ := (KW.out.keep hS).o2); clear hS; go_simp; first | done | exact rfl)))); (case put54 => (simp only [Act.put, List.setIfInBounds_toArray, List.set_cons_zero, List.set_cons_succ]; first | done | exact rfl)); (case' next54 => skip)
  (first | (refine' grow_skip rfl ?wt55 ?put55 ?next55; (case wt55 => rfl)) | (refine' grow_lit rfl ?wt55 ?run55 ?put55 ?next55; (case wt55 => rfl); (case run55 => (intro w' hS H; clear H; (obtain ⟨g0, g1, -, -⟩ := (KW.out.keep hS).o2); clear hS; go_simp; first | done | exact rfl)))); (case put55 => (simp only [Act.put, List.setIfInBounds_toArray, List.set_cons_zero, List.set_cons_succ]; first | done | exact rfl)); (case' next55 => skip)
  (first | (refine' grow_skip rfl ?wt56 ?put56 ?next56; (case wt56 => rfl)) | (refine' grow_lit rfl ?wt56 ?run56 ?put56 ?next56; (case wt56 => rfl); (case run56 => (intro w' hS H; clear H; (obtain ⟨g0, g1, -, -⟩ := (KW.out.keep hS).o2); clear hS; go_simp; first | done | exact rfl)))); (case put56 => (simp only [Act.put, List.setIfInBounds_toArray, List.set_cons_zero, List.set_cons_succ]; first | done | exact rfl)); (case' next56 => skip)
  (first | (refine' grow_skip rfl ?wt57 ?put57 ?next57; (case wt57 => rfl)) | (refine' grow_lit rfl ?wt57 ?run57 ?put57 ?next57; (case wt57 => rfl); (case run57 => (intro w' hS H; clear H; (obtain ⟨g0, g1, -, -⟩ := (KW.out.keep hS).o2); clear hS; go_simp; first | done | exact rfl)))); (case put57 => (simp only [Act.put, List.setIfInBounds_toArray, List.set_cons_zero, List.set_cons_succ]; first | done | exact rfl)); (case' next57 => skip)
  (first | (refine' grow_skip rfl ?wt58 ?put58 ?next58; (case wt58 => rfl)) | (refine' grow_lit rfl ?wt58 ?run58 ?put58 ?next58; (case wt58 => rfl); (case run58 => (intro w' hS H; clear H; (obtain ⟨g0, g1, -, -⟩ := (KW.out.keep hS).o2); clear hS; go_simp; first | done | exact rfl)))); (case put58 => (simp only [Act.put, List.setIfInBounds_toArray, List.set_cons_zero, List.set_cons_succ]; first | done | exact rfl)); (case' next58 => skip)
  (first | (refine' grow_skip rfl ?wt59 ?put59 ?next59; (case wt59 => rfl)) | (refine' grow_lit rfl ?wt59 ?run59 ?put59 ?next59; (case wt59 => rfl); (case run59 => (intro w' hS H; clear H; (obtain ⟨g0, g1, -, -⟩ := (KW.out.keep hS).o2); clear hS; go_simp; first | done | exact rfl)))); (case put59 => (simp only [Act.put, List.setIfInBounds_toArray, List.set_cons_zero, List.set_cons_succ]; first | done | exact rfl)); (case' next59 => skip)
  (first | (refine' grow_skip rfl ?wt60 ?put60 ?next60; (case wt60 => rfl)) | (refine' grow_lit rfl ?wt60 ?run60 ?put60 ?next60; (case wt60 => rfl); (case run60 => (intro w' hS H; clear H; (obtain ⟨g0, g1, -, -⟩ := (KW.out.keep hS).o2); clear hS; go_simp; first | done | exact rfl)))); (case put60 => (simp only [Act.put, List.setIfInBounds_toArray, List.set_cons_zero, List.set_cons_succ]; first | done | exact rfl)); (case' next60 => skip)
  (first | (refine' grow_skip rfl ?wt61 ?put61 ?next61; (case wt61 => rfl)) | (refine' grow_lit rfl ?wt61 ?run61 ?put61 ?next61; (case wt61 => rfl); (case run61 => (intro w' hS H; clear H; (obtain ⟨g0, g1, -, -⟩ := (KW.out.keep hS).o2); clear hS; go_simp; first | done | exact rfl)))); (case put61 => (simp only [Act.put, List.setIfInBounds_toArray, List.set_cons_zero, List.set_cons_succ]; first | done | exact rfl)); (case' next61 => skip)
  (first | (refine' grow_skip rfl ?wt62 ?put62 ?next62; (case wt62 => rfl)) | (refine' grow_lit rfl ?wt62 ?run62 ?put62 ?next62; (case wt62 => rfl); (case run62 => (intro w' hS H; clear H; (obtain ⟨g0, g1, -, -⟩ := (KW.out.keep hS).o2); clear hS; go_simp; first | done | exact rfl)))); (case put62 => (simp only [Act.put, List.setIfInBounds_toArray, List.set_cons_zero, List.set_cons_succ]; first | done | exact rfl)); (case' next62 => skip)
  (first | (refine' grow_skip rfl ?wt63 ?put63 ?next63; (case wt63 => rfl)) | (refine' grow_lit rfl ?wt63 ?run63 ?put63 ?next63; (case wt63 => rfl); (case run63 => (intro w' hS H; clear H; (obtain ⟨g0, g1, -, -⟩ := (KW.out.keep hS).o2); clear hS; go_simp; first | done | exact rfl)))); (case put63 => (simp only [Act.put, List.setIfInBounds_toArray, List.set_cons_zero, List.set_cons_succ]; first | done | exact rfl)); (case' next63 => skip)
  (first | (refine' grow_skip rfl ?wt64 ?put64 ?next64; (case wt64 => rfl)) | (refine' grow_lit rfl ?wt64 ?run64 ?put64 ?next64; (case wt64 => rfl); (case run64 => (intro w' hS H; clear H; (obtain ⟨g0, g1, -, -⟩ := (KW.out.keep hS).o2); clear hS; go_simp; first | done | exact rfl)))); (case put64 => (simp only [Act.put, List.setIfInBounds_toArray, List.set_cons_zero, List.set_cons_succ]; first | done | exact rfl)); (case' next64 => skip)
  (first | (refine' grow_skip rfl ?wt65 ?put65 ?next65; (case wt65 => rfl)) | (refine' grow_lit rfl ?wt65 ?run65 ?put65 ?next65; (case wt65 => rfl); (case run65 => (intro w' hS H; clear H; (obtain ⟨g0, g1, -, -⟩ := (KW.out.keep hS).o2); clear hS; go_simp; first | done | exact rfl)))); (case put65 => (simp only [Act.put, List.setIfInBounds_toArray, List.set_cons_zero, List.set_cons_succ]; first | done | exact rfl)); (case' next65 => skip)
  (first | (refine' grow_skip rfl ?wt66 ?put66 ?next66; (case wt66 => rfl)) | (refine' grow_lit rfl ?wt66 ?run66 ?put66 ?next66; (case wt66 => rfl); (case run66 => (intro w' hS H; clear H; (obtain ⟨g0, g1, -, -⟩ := (KW.out.keep hS).o2); clear hS; go_simp; first | done | exact rfl)))); (case put66 => (simp only [Act.put, List.setIfInBounds_toArray, List.set_cons_zero, List.set_cons_succ]; first | done | exact rfl)); (case' next66 => skip)
  intro w10 hb _
  have HF := Lib.hid (bOn BB.out hb)
  clear hb hGS
  go_wp2_with fail
  go_ret
  exact ⟨rfl, HF.out⟩

set_option maxHeartbeats 8000000 in
set_option maxRecDepth 100000 in
theorem most_110 (v M i A : Int) (w : World) (hg : ErrT w) (hv0 : 0 ≤ v) (hv1 : v ≤ 18446744073709551615) (hi0 : -9223372036854775808 ≤ i) (hi1 : i ≤ 9223372036854775807) (hV : v ≤ M) (hA : A ≤ M) (hN : ¬ i < 0) (hAi : A = i) :
    Calls Tryd.prog 5 #[.int .u64 v, .int .u64 M, .int .i64 i] w fun e w' => e = .returned (.bool true) ∧ Below w.heap.size w w' := by
  have hf := foldZ_in hi0 hi1
  have hrd := rd_enc hv0 hv1 []
  have hrd2 := rd_enc hf.1 hf.2 []
  rw [List.append_nil] at hrd hrd2
  have ham : amtZ (foldZ i) = A := by rw [amtZ_foldZ]; split <;> omega
  have hrU : uintR (enc v) 0 0 M = (v, (enc v).length, 0) := by unfold uintR; rw [if_pos rfl, List.drop_zero, hrd, if_pos rfl, if_neg (by show ¬ M < v; omega)]; simp
  have hrI : intR (enc (foldZ i)) 0 0 M = (i, (enc (foldZ i)).length, 0) := by unfold intR; rw [if_pos rfl, List.drop_zero, hrd2, if_pos rfl, if_neg (by show ¬ M < amtZ (foldZ i); omega)]; simp [unfZ_foldZ]
  clear hrd hrd2 ham hf
  have hX : IntKind.u64.wrap i = A := by simp [IntKind.wrap, IntKind.bits, IntKind.signed]; omega
  clear hAi
  go_enter Tryd.func5, Tryd.ntmps5
  go_wp2_with fail
  have B_0 := Lib.hid (Below.refl w.heap.size w)
  have HG := Lib.hid hg
  clear hg
  refine (known4_any _ HG.out).mono ?_
  rintro ev w1 ⟨rfl, hb⟩
  have B_1 := Lib.hid (bOn B_0.out hb)
  clear hb B_0
  go_wp2_with fail
  refine (ruint_any v _ hv0 hv1).mono ?_
  rintro ev w2 ⟨u1, x1, rfl, h1, -, hb⟩
  have B_2 := Lib.hid (bOn B_1.out hb)
  have U_2 := Lib.hid (show U8s w2 u1 (enc v) from ⟨x1, h1⟩)
  clear hb B_1 h1
  go_wp2_with fail
  refine (new_any u1 (enc v) _ U_2.out (enc_in8 hv0 hv1) (by have := enc_len v; omega)).mono ?_
  rintro ev w3 ⟨b, rfl, hr, hb⟩
  have U_3 := Lib.hid (U_2.out.below hb)
  have B_3 := Lib.hid (bOn B_2.out hb)
  have z1 : w.heap.size ≤ b := by have h1 := hr.lt; have h2 := B_2.out.size; omega
  have R_3 := Lib.hid (hr)
  clear U_3
  clear hb U_2 B_2 hr
  go_wp2_with fail
  refine (rint_any i _ hi0 hi1).mono ?_
  rintro ev w4 ⟨u2, x2, rfl, h1, -, hb⟩
  have R_4 := Lib.hid (R_3.out.below hb)
  have B_4 := Lib.hid (bOn B_3.out hb)
  have U_4 := Lib.hid (show U8s w4 u2 (enc (foldZ i)) from ⟨x2, h1⟩)
  clear hb R_3 B_3 h1
  go_wp2_with fail
  refine (new_any u2 (enc (foldZ i)) _ U_4.out (enc_in8 (foldZ_in hi0 hi1).1 (foldZ_in hi0 hi1).2) (by have := enc_len (foldZ i); omega)).mono ?_
  rintro ev w5 ⟨c, rfl, hr, hb⟩
  have R_5 := Lib.hid (R_4.out.below hb)
  have U_5 := Lib.hid (U_4.out.below hb)
  have B_5 := Lib.hid (bOn B_4.out hb)
  have z2 : b < c := by have h1 := hr.lt; have h2 := R_4.out.lt; omega
  have z3 : b < w4.heap.size := R_4.out.lt.2.1
  have S_5 := Lib.hid (hr)
  clear U_5
  clear hb R_4 U_4 B_4 hr
  go_wp2_with fail
  refine (vU (V := v) (a' := (enc v).length) (e' := 0) R_5.out hrU).mono ?_
  rintro ev w6 ⟨rfl, hr, hb⟩
  have S_6 := Lib.hid (S_5.out.but hb (Or.inl z3))
  have B_6 := Lib.hid (bOnB B_5.out hb z1)
  have R_6 := Lib.hid (hr)
  clear hb R_5 S_5 B_5 hr
  go_wp2_with fail
  refine (vI (V := i) (a' := (enc (foldZ i)).length) (e' := 0) S_6.out hrI).mono ?_
  rintro ev w7 ⟨rfl, hr, hb⟩
  have R_7 := Lib.hid (R_6.out.but hb (Or.inr z2))
  have B_7 := Lib.hid (bOnB B_6.out hb (by omega))
  have S_7 := Lib.hid (hr)
  clear hb S_6 R_6 B_6 hr
  go_wp2_with fail
  refine (vAt6 0 8 _).mono ?_
  rintro ev w8 ⟨wv, rfl, h1, hb⟩
  have R_8 := Lib.hid (R_7.out.below hb)
  have S_8 := Lib.hid (S_7.out.below hb)
  have B_8 := Lib.hid (bOn B_7.out hb)
  have U_8 := Lib.hid (h1)
  clear hb R_7 S_7 B_7 h1
  obtain ⟨q, n, c2, hwv⟩ := U_8.out.2
  subst hwv
  go_wp2_with fail
  obtain ⟨W, hW⟩ := named (w8.alloc (.cells #[.slice q n c2, .int .i64 8] 41))
  rw [← hW]
  have hb : Below w8.heap.size w8 W := by rw [hW]; exact below_new8 _
  have KW : Hid (Blk W w8.heap.size #[.slice q n c2, .int .i64 8] 41) := by rw [hW]; exact Lib.hid (Blk.new _ _ _ _ rfl)
  have R := Lib.hid (R_8.out.below hb)
  have S := Lib.hid (S_8.out.below hb)
  have U := Lib.hid (U_8.out.below hb)
  have G := Lib.hid (HG.out.old (bOn B_8.out hb))
  have BB := Lib.hid (bOn B_8.out hb)
  clear hb hW HG R_8 S_8 U_8 B_8
  have d1 : decide (v ≤ M) = true := by simp; omega
  have d2 : decide (M < v) = false := by simp; omega
  have d3 : decide (A ≤ M) = true := by simp; omega
  have d4 : decide (M < A) = false := by simp; omega
  have hGS : Grows (fun w' => Below W.heap.size W w') := Grows.below W
  refine' wp_growL _ (fun w' => Below W.heap.size W w') [[], [], [0, 1], [2], [3], [3], [3, 4, 5], [3, 6], [7], [7, 8], [7, 9], [3, 7, 10], [3, 11], [12], [13], [13], [13, 14, 15], [13, 16], [17], [17, 18], [17, 19], [20], [20, 21], [20, 22], [17, 20, 23], [17, 24], [25], [25, 26], [25], [25, 27, 28], [25, 29], [17, 25, 30], [13, 17, 31], [13, 32]] (Fact.lit _ :: Fact.lit _ :: Fact.lit _ :: Fact.lit _ :: Fact.lit _ :: Fact.lit _ :: Fact.lit _ :: Fact.lit _ :: Fact.lit _ :: Fact.lit _ :: Fact.lit _ :: Fact.lit _ :: Fact.lit _ :: Fact.lit _ :: Fact.lit _ :: Fact.lit _ :: Fact.lit _ :: Fact.lit _ :: Fact.lit _ :: Fact.lit _ :: Fact.lit _ :: Fact.lit _ :: Fact.lit _ :: Fact.lit _ :: Fact.lit _ :: Fact.lit _ :: Fact.lit _ :: Fact.lit _ :: Fact.lit _ :: Fact.lit _ :: Fact.lit _ :: Fact.lit _ :: Fact.lit _ :: Fact.lit _ :: []) (by kernel_rfl) rfl (by kernel_rfl) (Below.refl _ _).drew ?seqp
  case' seqp => skip
  (first | (refine' grow_skip rfl ?wt67 ?put67 ?next67; (case wt67 => rfl)) | (refine' grow_lit rfl ?wt67 ?run67 ?put67 ?next67; (case wt67 => rfl); (case run67 => (intro w' hS H; clear H; (obtain ⟨g0, g1, -, -⟩ := (KW.out.keep hS).o2); clear hS; go_simp; first | done | exact rfl)))); (case put67 => (simp only [Act.put, List.setIfInBounds_toArray, List.set_cons_zero, List.set_cons_succ]; first | done | exact rfl)); (case' next67 => skip)
  (first | (refine' grow_skip rfl ?wt68 ?put68 ?next68; (case wt68 => rfl)) | (refine' grow_lit rfl ?wt68 ?run68 ?put68 ?next68; (case wt68 => rfl); (case run68 => (intro w' hS H; clear H; (obtain ⟨g0, g1, -, -⟩ := (KW.out.keep hS).o2); clear hS; go_simp; first | done | exact rfl)))); (case put68 => (simp only [Act.put, List.setIfInBounds_toArray, List.set_cons_zero, List.set_cons_succ]; first | done | exact rfl)); (case' next68 => skip)
  (first | (refine' grow_skip rfl ?wt69 ?put69 ?next69; (case wt69 => rfl)) | (refine' grow_lit rfl ?wt69 ?run69 ?put69 ?next69; (case wt69 => rfl); (case run69 => (intro w' hS H; clear H; (obtain ⟨g0, g1, -, -⟩ := (KW.out.keep hS).o2); clear hS; go_simp; first | done | exact rfl)))); (case put69 => (simp only [Act.put, List.setIfInBounds_toArray, List.set_cons_zero, List.set_cons_succ]; first | done | exact rfl)); (case' next69 => skip)
  (first | (refine' grow_skip rfl ?wt70 ?put70 ?next70; (case wt70 => rfl)) | (refine' grow_lit rfl ?wt70 ?run70 ?put70 ?next70; (case wt70 => rfl); (case run70 => (intro w' hS H; clear H; (obtain ⟨g0, g1, -, -⟩ := (KW.out.keep hS).o2); clear hS; go_simp; first | done | exact rfl)))); (case put70 => (simp only [Act.put, List.setIfInBounds_toArray, List.set_cons_zero, List.set_cons_succ]; first | done | exact rfl)); (case' next70 => skip)
  (first | (refine' grow_skip rfl ?wt71 ?put71 ?next71; (case wt71 => rfl)) | (refine' grow_lit rfl ?wt71 ?run71 ?put71 ?next71; (case wt71 => rfl); (case run71 => (intro w' hS H; clear H; (obtain ⟨g0, g1, -, -⟩ := (KW.out.keep hS).o2); clear hS; go_simp; first | done | exact rfl)))); (case put71 => (simp only [Act.put, List.setIfInBounds_toArray, List.set_cons_zero, List.set_cons_succ]; first | done | exact rfl)); (case' next71 => skip)
  (first | (refine' grow_skip rfl ?wt72 ?put72 ?next72; (case wt72 => rfl)) | (refine' grow_lit rfl ?wt72 ?run72 ?put72 ?next72; (case wt72 => rfl); (case run72 => (intro w' hS H; clear H; (obtain ⟨g0, g1, -, -⟩ := (KW.out.keep hS).o2); clear hS; go_simp; first | done | exact rfl)))); (case put72 => (simp only [Act.put, List.setIfInBounds_toArray, List.set_cons_zero, List.set_cons_succ]; first | done | exact rfl)); (case' next72 => skip)
  (first | (refine' grow_skip rfl ?wt73 ?put73 ?next73; (case wt73 => rfl)) | (refine' grow_lit rfl ?wt73 ?run73 ?put73 ?next73; (case wt73 => rfl); (case run73 => (intro w' hS H; clear H; (obtain ⟨g0, g1, -, -⟩ := (KW.out.keep hS).o2); clear hS; go_simp; first | done | exact rfl)))); (case put73 => (simp only [Act.put, List.setIfInBounds_toArray, List.set_cons_zero, List.set_cons_succ]; first | done | exact rfl)); (case' next73 => skip)
  (first | (refine' grow_skip rfl ?wt74 ?put74 ?next74; (case wt74 => rfl)) | (refine' grow_lit rfl ?wt74 ?run74 ?put74 ?next74; (case wt74 => rfl); (case run74 => (intro w' hS H; clear H; (obtain ⟨g0, g1, -, -⟩ := (KW.out.keep hS).o2); clear hS; go_simp; first | done | exact rfl)))); (case put74 => (simp only [Act.put, List.setIfInBounds_toArray, List.set_cons_zero, List.set_cons_succ]; first | done | exact rfl)); (case' next74 => skip)
  (first | (refine' grow_skip rfl ?wt75 ?put75 ?next75; (case wt75 => rfl)) | (refine' grow_lit rfl ?wt75 ?run75 ?put75 ?next75; (case wt75 => rfl); (case run75 => (intro w' hS H; clear H; (obtain ⟨g0, g1, -, -⟩ := (KW.out.keep hS).o2); clear hS; go_simp; first | done | exact rfl)))); (case put75 => (simp only [Act.put, List.setIfInBounds_toArray, List.set_cons_zero, List.set_cons_succ]; first | done | exact rfl)); (case' next75 => skip)
  (refine' grow_call (u := .nilIface) rfl Tryd.func16 (by kernel_rfl) rfl hGS rfl ?wt263 ?run263 ?put263 ?next263; (case wt263 => rfl); (case run263 => (intro w' hS H; exact vDone0 (R.out.below hS) (Nat.lt_irrefl _))); (case put263 => (simp only [Act.put, List.setIfInBounds_toArray, List.set_cons_zero, List.set_cons_succ]; first | done | exact rfl)); (case' next263 => skip))
  (first | (refine' grow_skip rfl ?wt76 ?put76 ?next76; (case wt76 => rfl)) | (refine' grow_lit rfl ?wt76 ?run76 ?put76 ?next76; (case wt76 => rfl); (case run76 => (intro w' hS H; clear H; (obtain ⟨g0, g1, -, -⟩ := (KW.out.keep hS).o2); clear hS; go_simp; first | done | exact rfl)))); (case put76 => (simp only [Act.put, List.setIfInBounds_toArray, List.set_cons_zero, List.set_cons_succ]; first | done | exact rfl)); (case' next76 => skip)
  (first | (refine' grow_skip rfl ?wt77 ?put77 ?next77; (case wt77 => rfl)) | (refine' grow_lit rfl ?wt77 ?run77 ?put77 ?next77; (case wt77 => rfl); (case run77 => (intro w' hS H; clear H; (obtain ⟨g0, g1, -, -⟩ := (KW.out.keep hS).o2); clear hS; go_simp; first | done | exact rfl)))); (case put77 => (simp only [Act.put, List.setIfInBounds_toArray, List.set_cons_zero, List.set_cons_succ]; first | done | exact rfl)); (case' next77 => skip)
  (first | (refine' grow_skip rfl ?wt78 ?put78 ?next78; (case wt78 => rfl)) | (refine' grow_lit rfl ?wt78 ?run78 ?put78 ?next78; (case wt78 => rfl); (case run78 => (intro w' hS H; clear H; (obtain ⟨g0, g1, -, -⟩ := (KW.out.keep hS).o2); clear hS; go_simp; first | done | exact rfl)))); (case put78 => (simp only [Act.put, List.setIfInBounds_toArray, List.set_cons_zero, List.set_cons_succ]; first | done | exact rfl)); (case' next78 => skip)
  (first | (refine' grow_skip rfl ?wt79 ?put79 ?next79; (case wt79 => rfl)) | (refine' grow_lit rfl ?wt79 ?run79 ?put79 ?next79; (case wt79 => rfl); (case run79 => (intro w' hS H; clear H; (obtain ⟨g0, g1, -, -⟩ := (KW.out.keep hS).o2); clear hS; go_simp; first | done | exact rfl)))); (case put79 => (simp only [Act.put, List.setIfInBounds_toArray, List.set_cons_zero, List.set_cons_succ]; first | done | exact rfl)); (case' next79 => skip)
  (first | (refine' grow_skip rfl ?wt80 ?put80 ?next80; (case wt80 => rfl)) | (refine' grow_lit rfl ?wt80 ?run80 ?put80 ?next80; (case wt80 => rfl); (case run80 => (intro w' hS H; clear H; (obtain ⟨g0, g1, -, -⟩ := (KW.out.keep hS).o2); clear hS; go_simp; first | done | exact rfl)))); (case put80 => (simp only [Act.put, List.setIfInBounds_toArray, List.set_cons_zero, List.set_cons_succ]; first | done | exact rfl)); (case' next80 => skip)
  (first | (refine' grow_skip rfl ?wt81 ?put81 ?next81; (case wt81 => rfl)) | (refine' grow_lit rfl ?wt81 ?run81 ?put81 ?next81; (case wt81 => rfl); (case run81 => (intro w' hS H; clear H; (obtain ⟨g0, g1, -, -⟩ := (KW.out.keep hS).o2); clear hS; go_simp; first | done | exact rfl)))); (case put81 => (simp only [Act.put, List.setIfInBounds_toArray, List.set_cons_zero, List.set_cons_succ]; first | done | exact rfl)); (case' next81 => skip)
  (first | (refine' grow_skip rfl ?wt82 ?put82 ?next82; (case wt82 => rfl)) | (refine' grow_lit rfl ?wt82 ?run82 ?put82 ?next82; (case wt82 => rfl); (case run82 => (intro w' hS H; clear H; (obtain ⟨g0, g1, -, -⟩ := (KW.out.keep hS).o2); clear hS; go_simp; first | done | exact rfl)))); (case put82 => (simp only [Act.put, List.setIfInBounds_toArray, List.set_cons_zero, List.set_cons_succ]; first | done | exact rfl)); (case' next82 => skip)
  (first | (refine' grow_skip rfl ?wt83 ?put83 ?next83; (case wt83 => rfl)) | (refine' grow_lit rfl ?wt83 ?run83 ?put83 ?next83; (case wt83 => rfl); (case run83 => (intro w' hS H; clear H; (obtain ⟨g0, g1, -, -⟩ := (KW.out.keep hS).o2); clear hS; go_simp; first | done | exact rfl)))); (case put83 => (simp only [Act.put, List.setIfInBounds_toArray, List.set_cons_zero, List.set_cons_succ]; first | done | exact rfl)); (case' next83 => skip)
  (first | (refine' grow_skip rfl ?wt84 ?put84 ?next84; (case wt84 => rfl)) | (refine' grow_lit rfl ?wt84 ?run84 ?put84 ?next84; (case wt84 => rfl); (case run84 => (intro w' hS H; clear H; (obtain ⟨g0, g1, -, -⟩ := (KW.out.keep hS).o2); clear hS; go_simp; first | done | exact rfl)))); (case put84 => (simp only [Act.put, List.setIfInBounds_toArray, List.set_cons_zero, List.set_cons_succ]; first | done | exact rfl)); (case' next84 => skip)
  (first | (refine' grow_skip rfl ?wt85 ?put85 ?next85; (case wt85 => rfl)) | (refine' grow_lit rfl ?wt85 ?run85 ?put85 ?next85; (case wt85 => rfl); (case run85 => (intro w' hS H; clear H; (obtain ⟨g0, g1, -, -⟩ := (KW.out.keep hS).o2); clear hS; go_simp; first | done | exact rfl)))); (case put85 => (simp only [Act.put, List.setIfInBounds_toArray, List.set_cons_zero, List.set_cons_succ]; first | done | exact rfl)); (case' next85 => skip)
  (first | (refine' grow_skip rfl ?wt86 ?put86 ?next86; (case wt86 => rfl)) | (refine' grow_lit rfl ?wt86 ?run86 ?put86 ?next86; (case wt86 => rfl); (case run86 => (intro w' hS H; clear H; (obtain ⟨g0, g1, -, -⟩ := (KW.out.keep hS).o2); clear hS; go_simp; first | done | exact rfl)))); (case put86 => (simp only [Act.put, List.setIfInBounds_toArray, List.set_cons_zero, List.set_cons_succ]; first | done | exact rfl)); (case' next86 => skip)
  (first | (refine' grow_skip rfl ?wt87 ?put87 ?next87; (case wt87 => rfl)) | (refine' grow_lit rfl ?wt87 ?run87 ?put87 ?next87; (case wt87 => rfl); (case run87 => (intro w' hS H; clear H; (obtain ⟨g0, g1, -, -⟩ := (KW.out.keep hS).o2); clear hS; go_simp; first | done | exact rfl)))); (case put87 => (simp only [Act.put, List.setIfInBounds_toArray, List.set_cons_zero, List.set_cons_succ]; first | done | exact rfl)); (case' next87 => skip)
  (first | (refine' grow_skip rfl ?wt88 ?put88 ?next88; (case wt88 => rfl)) | (refine' grow_lit rfl ?wt88 ?run88 ?put88 ?next88; (case wt88 => rfl); (case run88 => (intro w' hS H; clear H; (obtain ⟨g0, g1, -, -⟩ := (KW.out.keep hS).o2); clear hS; go_simp; first | done | exact rfl)))); (case put88 => (simp only [Act.put, List.setIfInBounds_toArray, List.set_cons_zero, List.set_cons_succ]; first | done | exact rfl)); (case' next88 => skip)
  (first | (refine' grow_skip rfl ?wt89 ?put89 ?next89; (case wt89 => rfl)) | (refine' grow_lit rfl ?wt89 ?run89 ?put89 ?next89; (case wt89 => rfl); (case run89 => (intro w' hS H; clear H; (obtain ⟨g0, g1, -, -⟩ := (KW.out.keep hS).o2); clear hS; go_simp; first | done | exact rfl)))); (case put89 => (simp only [Act.put, List.setIfInBounds_toArray, List.set_cons_zero, List.set_cons_succ]; first | done | exact rfl)); (case' next89 => skip)
  (first | (refine' grow_skip rfl ?wt90 ?put90 ?next90; (case wt90 => rfl)) | (refine' grow_lit rfl ?wt90 ?run90 ?put90 ?next90; (case wt90 => rfl); (case run90 => (intro w' hS H; clear H; (obtain ⟨g0, g1, -, -⟩ := (KW.out.keep hS).o2); clear hS; go_simp; first | done | exact rfl)))); (case put90 => (simp only [Act.put, List.setIfInBounds_toArray, List.set_cons_zero, List.set_cons_succ]; first | done | exact rfl)); (case' next90 => skip)
  (first | (refine' grow_skip rfl ?wt91 ?put91 ?next91; (case wt91 => rfl)) | (refine' grow_lit rfl ?wt91 ?run91 ?put91 ?next91; (case wt91 => rfl); (case run91 => (intro w' hS H; clear H; (obtain ⟨g0, g1, -, -⟩ := (KW.out.keep hS).o2); clear hS; go_simp; first | done | exact rfl)))); (case put91 => (simp only [Act.put, List.setIfInBounds_toArray, List.set_cons_zero, List.set_cons_succ]; first | done | exact rfl)); (case' next91 => skip)
  (first | (refine' grow_skip rfl ?wt92 ?put92 ?next92; (case wt92 => rfl)) | (refine' grow_lit rfl ?wt92 ?run92 ?put92 ?next92; (case wt92 => rfl); (case run92 => (intro w' hS H; clear H; (obtain ⟨g0, g1, -, -⟩ := (KW.out.keep hS).o2); clear hS; go_simp; first | done | exact rfl)))); (case put92 => (simp only [Act.put, List.setIfInBounds_toArray, List.set_cons_zero, List.set_cons_succ]; first | done | exact rfl)); (case' next92 => skip)
  (first | (refine' grow_skip rfl ?wt93 ?put93 ?next93; (case wt93 => rfl)) | (refine' grow_lit rfl ?wt93 ?run93 ?put93 ?next93; (case wt93 => rfl); (case run93 => (intro w' hS H; clear H; (obtain ⟨g0, g1, -, -⟩ := (KW.out.keep hS).o2); clear hS; go_simp; first | done | exact rfl)))); (case put93 => (simp only [Act.put, List.setIfInBounds_toArray, List.set_cons_zero, List.set_cons_succ]; first | done | exact rfl)); (case' next93 => skip)
  (first | (refine' grow_skip rfl ?wt94 ?put94 ?next94; (case wt94 => rfl)) | (refine' grow_lit rfl ?wt94 ?run94 ?put94 ?next94; (case wt94 => rfl); (case run94 => (intro w' hS H; clear H; (obtain ⟨g0, g1, -, -⟩ := (KW.out.keep hS).o2); clear hS; go_simp; first | done | exact rfl)))); (case put94 => (simp only [Act.put, List.setIfInBounds_toArray, List.set_cons_zero, List.set_cons_succ]; first | done | exact rfl)); (case' next94 => skip)
  (first | (refine' grow_skip rfl ?wt95 ?put95 ?next95; (case wt95 => rfl)) | (refine' grow_lit rfl ?wt95 ?run95 ?put95 ?next95; (case wt95 => rfl); (case run95 => (intro w' hS H; clear H; (obtain ⟨g0, g1, -, -⟩ := (KW.out.keep hS).o2); clear hS; go_simp; first | done | exact rfl)))); (case put95 => (simp only [Act.put, List.setIfInBounds_toArray, List.set_cons_zero, List.set_cons_succ]; first | done | exact rfl)); (case' next95 => skip)
  (first | (refine' grow_skip rfl ?wt96 ?put96 ?next96; (case wt96 => rfl)) | (refine' grow_lit rfl ?wt96 ?run96 ?put96 ?next96; (case wt96 => rfl); (case run96 => (intro w' hS H; clear H; (obtain ⟨g0, g1, -, -⟩ := (KW.out.keep hS).o2); clear hS; go_simp; first | done | exact rfl)))); (case put96 => (simp only [Act.put, List.setIfInBounds_toArray, List.set_cons_zero, List.set_cons_succ]; first | done | exact rfl)); (case' next96 => skip)
  (first | (refine' grow_skip rfl ?wt97 ?put97 ?next97; (case wt97 => rfl)) | (refine' grow_lit rfl ?wt97 ?run97 ?put97 ?next97; (case wt97 => rfl); (case run97 => (intro w' hS H; clear H; (obtain ⟨g0, g1, -, -⟩ := (KW.out.keep hS).o2); clear hS; go_simp; first | done | exact rfl)))); (case put97 => (simp only [Act.put, List.setIfInBounds_toArray, List.set_cons_zero, List.set_cons_succ]; first | done | exact rfl)); (case' next97 => skip)
  (first | (refine' grow_skip rfl ?wt98 ?put98 ?next98; (case wt98 => rfl)) | (refine' grow_lit rfl ?wt98 ?run98 ?put98 ?next98; (case wt98 => rfl); (case run98 => (intro w' hS H; clear H; (obtain ⟨g0, g1, -, -⟩ := (KW.out.keep hS).o2); clear hS; go_simp; first | done | exact rfl)))); (case put98 => (simp only [Act.put, List.setIfInBounds_toArray, List.set_cons_zero, List.set_cons_succ]; first | done | exact rfl)); (case' next98 => skip)
  (first | (refine' grow_skip rfl ?wt99 ?put99 ?next99; (case wt99 => rfl)) | (refine' grow_lit rfl ?wt99 ?run99 ?put99 ?next99; (case wt99 => rfl); (case run99 => (intro w' hS H; clear H; (obtain ⟨g0, g1, -, -⟩ := (KW.out.keep hS).o2); clear hS; go_simp; first | done | exact rfl)))); (case put99 => (simp only [Act.put, List.setIfInBounds_toArray, List.set_cons_zero, List.set_cons_succ]; first | done | exact rfl)); (case' next99 => skip)
  intro w9 hb _
  have B1 := Lib.hid (bOn BB.out hb)
  have KW1 := Lib.hid (KW.out.keep hb)
  have S1 := Lib.hid (S.out.below hb)
  have U1 := Lib.hid (U.out.below hb)
  have G1 := Lib.hid (ErrT.old hb G.out)
  clear hb hGS R S U G BB KW
  have S := S1
  have U := U1
  have G := G1
  have KW := KW1
  have BB := B1
  clear S1 U1 G1 B1 KW1
  go_wp2_with fail
  have hGS : Grows (fun w' => Below w9.heap.size w9 w') := Grows.below w9
  refine' wp_growL _ (fun w' => Below w9.heap.size w9 w') [[], [], [0, 1], [2], [3], [3], [3, 4, 5], [3, 6], [7], [8], [8, 9], [8, 10], [8, 11], [12], [13], [13], [13, 14, 15], [13, 16], [17], [17, 18], [13, 17, 19], [13, 20], [21], [21, 22], [21, 23], [13, 21, 24], [13, 25], [26], [26, 27], [26], [26, 28, 29], [13, 26, 30], [13, 31], [32]] (Fact.lit _ :: Fact.lit _ :: Fact.lit _ :: Fact.lit _ :: Fact.lit _ :: Fact.lit _ :: Fact.lit _ :: Fact.lit _ :: Fact.lit _ :: Fact.lit _ :: Fact.lit _ :: Fact.lit _ :: Fact.lit _ :: Fact.lit _ :: Fact.lit _ :: Fact.lit _ :: Fact.lit _ :: Fact.lit _ :: Fact.lit _ :: Fact.lit _ :: Fact.lit _ :: Fact.lit _ :: Fact.lit _ :: Fact.lit _ :: Fact.lit _ :: Fact.lit _ :: Fact.lit _ :: Fact.lit _ :: Fact.lit _ :: Fact.lit _ :: Fact.lit _ :: Fact.lit _ :: Fact.lit _ :: Fact.lit _ :: []) (by kernel_rfl) rfl (by kernel_rfl) (Below.refl _ _).drew ?seqq
  case' seqq => skip
  (first | (refine' grow_skip rfl ?wt100 ?put100 ?next100; (case wt100 => rfl)) | (refine' grow_lit rfl ?wt100 ?run100 ?put100 ?next100; (case wt100 => rfl); (case run100 => (intro w' hS H; clear H; (obtain ⟨g0, g1, -, -⟩ := (KW.out.keep hS).o2); clear hS; go_simp; first | done | exact rfl)))); (case put100 => (simp only [Act.put, List.setIfInBounds_toArray, List.set_cons_zero, List.set_cons_succ]; first | done | exact rfl)); (case' next100 => skip)
  (first | (refine' grow_skip rfl ?wt101 ?put101 ?next101; (case wt101 => rfl)) | (refine' grow_lit rfl ?wt101 ?run101 ?put101 ?next101; (case wt101 => rfl); (case run101 => (intro w' hS H; clear H; (obtain ⟨g0, g1, -, -⟩ := (KW.out.keep hS).o2); clear hS; go_simp; first | done | exact rfl)))); (case put101 => (simp only [Act.put, List.setIfInBounds_toArray, List.set_cons_zero, List.set_cons_succ]; first | done | exact rfl)); (case' next101 => skip)
  (first | (refine' grow_skip rfl ?wt102 ?put102 ?next102; (case wt102 => rfl)) | (refine' grow_lit rfl ?wt102 ?run102 ?put102 ?next102; (case wt102 => rfl); (case run102 => (intro w' hS H; clear H; (obtain ⟨g0, g1, -, -⟩ := (KW.out.keep hS).o2); clear hS; go_simp; first | done | exact rfl)))); (case put102 => (simp only [Act.put, List.setIfInBounds_toArray, List.set_cons_zero, List.set_cons_succ]; first | done | exact rfl)); (case' next102 => skip)
  (first | (refine' grow_skip rfl ?wt103 ?put103 ?next103; (case wt103 => rfl)) | (refine' grow_lit rfl ?wt103 ?run103 ?put103 ?next103; (case wt103 => rfl); (case run103 => (intro w' hS H; clear H; (obtain ⟨g0, g1, -, -⟩ := (KW.out.keep hS).o2); clear hS; go_simp; first | done | exact rfl)))); (case put103 => (simp only [Act.put, List.setIfInBounds_toArray, List.set_cons_zero, List.set_cons_succ]; first | done | exact rfl)); (case' next103 => skip)
  (first | (refine' grow_skip rfl ?wt104 ?put104 ?next104; (case wt104 => rfl)) | (refine' grow_lit rfl ?wt104 ?run104 ?put104 ?next104; (case wt104 => rfl); (case run104 => (intro w' hS H; clear H; (obtain ⟨g0, g1, -, -⟩ := (KW.out.keep hS).o2); clear hS; go_simp; first | done | exact rfl)))); (case put104 => (simp only [Act.put, List.setIfInBounds_toArray, List.set_cons_zero, List.set_cons_succ]; first | done | exact rfl)); (case' next104 => skip)
  (first | (refine' grow_skip rfl ?wt105 ?put105 ?next105; (case wt105 => rfl)) | (refine' grow_lit rfl ?wt105 ?run105 ?put105 ?next105; (case wt105 => rfl); (case run105 => (intro w' hS H; clear H; (obtain ⟨g0, g1, -, -⟩ := (KW.out.keep hS).o2); clear hS; go_simp; first | done | exact rfl)))); (case put105 => (simp only [Act.put, List.setIfInBounds_toArray, List.set_cons_zero, List.set_cons_succ]; first | done | exact rfl)); (case' next105 => skip)
  (first | (refine' grow_skip rfl ?wt106 ?put106 ?next106; (case wt106 => rfl)) | (refine' grow_lit rfl ?wt106 ?run106 ?put106 ?next106; (case wt106 => rfl); (case run106 => (intro w' hS H; clear H; (obtain ⟨g0, g1, -, -⟩ := (KW.out.keep hS).o2); clear hS; go_simp; first | done | exact rfl)))); (case put106 => (simp only [Act.put, List.setIfInBounds_toArray, List.set_cons_zero, List.set_cons_succ]; first | done | exact rfl)); (case' next106 => skip)
  (first | (refine' grow_skip rfl ?wt107 ?put107 ?next107; (case wt107 => rfl)) | (refine' grow_lit rfl ?wt107 ?run107 ?put107 ?next107; (case wt107 => rfl); (case run107 => (intro w' hS H; clear H; (obtain ⟨g0, g1, -, -⟩ := (KW.out.keep hS).o2); clear hS; go_simp; first | done | exact rfl)))); (case put107 => (simp only [Act.put, List.setIfInBounds_toArray, List.set_cons_zero, List.set_cons_succ]; first | done | exact rfl)); (case' next107 => skip)
  (first | (refine' grow_skip rfl ?wt108 ?put108 ?next108; (case wt108 => rfl)) | (refine' grow_lit rfl ?wt108 ?run108 ?put108 ?next108; (case wt108 => rfl); (case run108 => (intro w' hS H; clear H; (obtain ⟨g0, g1, -, -⟩ := (KW.out.keep hS).o2); clear hS; go_simp; first | done | exact rfl)))); (case put108 => (simp only [Act.put, List.setIfInBounds_toArray, List.set_cons_zero, List.set_cons_succ]; first | done | exact rfl)); (case' next108 => skip)
  (first | (refine' grow_skip rfl ?wt109 ?put109 ?next109; (case wt109 => rfl)) | (refine' grow_lit rfl ?wt109 ?run109 ?put109 ?next109; (case wt109 => rfl); (case run109 => (intro w' hS H; clear H; (obtain ⟨g0, g1, -, -⟩ := (KW.out.keep hS).o2); clear hS; go_simp; first | done | exact rfl)))); (case put109 => (simp only [Act.put, List.setIfInBounds_toArray, List.set_cons_zero, List.set_cons_succ]; first | done | exact rfl)); (case' next109 => skip)
  (refine' grow_call (u := .nilIface) rfl Tryd.func16 (by kernel_rfl) rfl hGS rfl ?wt264 ?run264 ?put264 ?next264; (case wt264 => rfl); (case run264 => (intro w' hS H; exact vDone0 (S.out.below hS) (Nat.lt_irrefl _))); (case put264 => (simp only [Act.put, List.setIfInBounds_toArray, List.set_cons_zero, List.set_cons_succ]; first | done | exact rfl)); (case' next264 => skip))
  (first | (refine' grow_skip rfl ?wt110 ?put110 ?next110; (case wt110 => rfl)) | (refine' grow_lit rfl ?wt110 ?run110 ?put110 ?next110; (case wt110 => rfl); (case run110 => (intro w' hS H; clear H; (obtain ⟨g0, g1, -, -⟩ := (KW.out.keep hS).o2); clear hS; go_simp; first | done | exact rfl)))); (case put110 => (simp only [Act.put, List.setIfInBounds_toArray, List.set_cons_zero, List.set_cons_succ]; first | done | exact rfl)); (case' next110 => skip)
  (first | (refine' grow_skip rfl ?wt111 ?put111 ?next111; (case wt111 => rfl)) | (refine' grow_lit rfl ?wt111 ?run111 ?put111 ?next111; (case wt111 => rfl); (case run111 => (intro w' hS H; clear H; (obtain ⟨g0, g1, -, -⟩ := (KW.out.keep hS).o2); clear hS; go_simp; first | done | exact rfl)))); (case put111 => (simp only [Act.put, List.setIfInBounds_toArray, List.set_cons_zero, List.set_cons_succ]; first | done | exact rfl)); (case' next111 => skip)
  (first | (refine' grow_skip rfl ?wt112 ?put112 ?next112; (case wt112 => rfl)) | (refine' grow_lit rfl ?wt112 ?run112 ?put112 ?next112; (case wt112 => rfl); (case run112 => (intro w' hS H; clear H; (obtain ⟨g0, g1, -, -⟩ := (KW.out.keep hS).o2); clear hS; go_simp; first | done | exact rfl)))); (case put112 => (simp only [Act.put, List.setIfInBounds_toArray, List.set_cons_zero, List.set_cons_succ]; first | done | exact rfl)); (case' next112 => skip)
  (first | (refine' grow_skip rfl ?wt113 ?put113 ?next113; (case wt113 => rfl)) | (refine' grow_lit rfl ?wt113 ?run113 ?put113 ?next113; (case wt113 => rfl); (case run113 => (intro w' hS H; clear H; (obtain ⟨g0, g1, -, -⟩ := (KW.out.keep hS).o2); clear hS; go_simp; first | done | exact rfl)))); (case put113 => (simp only [Act.put, List.setIfInBounds_toArray, List.set_cons_zero, List.set_cons_succ]; first | done | exact rfl)); (case' next113 => skip)
  (first | (refine' grow_skip rfl ?wt114 ?put114 ?next114; (case wt114 => rfl)) | (refine' grow_lit rfl ?wt114 ?run114 ?put114 ?next114; (case wt114 => rfl); (case run114 => (intro w' hS H; clear H; (obtain ⟨g0, g1, -, -⟩ := (KW.out.keep hS).o2); clear hS; go_simp; first | done | exact rfl)))); (case put114 => (simp only [Act.put, List.setIfInBounds_toArray, List.set_cons_zero, List.set_cons_succ]; first | done | exact rfl)); (case' next114 => skip)
  (first | (refine' grow_skip rfl ?wt115 ?put115 ?next115; (case wt115 => rfl)) | (refine' grow_lit rfl ?wt115 ?run115 ?put115 ?next115; (case wt115 => rfl); (case run115 => (intro w' hS H; clear H; (obtain ⟨g0, g1, -, -⟩ := (KW.out.keep hS).o2); clear hS; go_simp; first | done | exact rfl)))); (case put115 => (simp only [Act.put, List.setIfInBounds_toArray, List.set_cons_zero, List.set_cons_succ]; first | done | exact rfl)); (case' next115 => skip)
  (first | (refine' grow_skip rfl ?wt116 ?put116 ?next116; (case wt116 => rfl)) | (refine' grow_lit rfl ?wt116 ?run116 ?put116 ?next116; (case wt116 => rfl); (case run116 => (intro w' hS H; clear H; (obtain ⟨g0, g1, -, -⟩ := (KW.out.keep hS).o2); clear hS; go_simp; first | done | exact rfl)))); (case put116 => (simp only [Act.put, List.setIfInBounds_toArray, List.set_cons_zero, List.set_cons_succ]; first | done | exact rfl)); (case' next116 => skip)
  (first | (refine' grow_skip rfl ?wt117 ?put117 ?next117; (case wt117 => rfl)) | (refine' grow_lit rfl ?wt117 ?run117 ?put117 ?next117; (case wt117 => rfl); (case run117 => (intro w' hS H; clear H; (obtain ⟨g0, g1, -, -⟩ := (KW.out.keep hS).o2); clear hS; go_simp; first | done | exact rfl)))); (case put117 => (simp only [Act.put, List.setIfInBounds_toArray, List.set_cons_zero, List.set_cons_succ]; first | done | exact rfl)); (case' next117 => skip)
  (first | (refine' grow_skip rfl ?wt118 ?put118 ?next118; (case wt118 => rfl)) | (refine' grow_lit rfl ?wt118 ?run118 ?put118 ?next118; (case wt118 => rfl); (case run118 => (intro w' hS H; clear H; (obtain ⟨g0, g1, -, -⟩ := (KW.out.keep hS).o2); clear hS; go_simp; first | done | exact rfl)))); (case put118 => (simp only [Act.put, List.setIfInBounds_toArray, List.set_cons_zero, List.set_cons_succ]; first | done | exact rfl)); (case' next118 => skip)
  (first | (refine' grow_skip rfl ?wt119 ?put119 ?next119; (case wt119 => rfl)) | (refine' grow_lit rfl ?wt119 ?run119 ?put119 ?next119; (case wt119 => rfl); (case run119 => (intro w' hS H; clear H; (obtain ⟨g0, g1, -, -⟩ := (KW.out.keep hS).o2); clear hS; go_simp; first | done | exact rfl)))); (case put119 => (simp only [Act.put, List.setIfInBounds_toArray, List.set_cons_zero, List.set_cons_succ]; first | done | exact rfl)); (case' next119 => skip)
  (first | (refine' grow_skip rfl ?wt120 ?put120 ?next120; (case wt120 => rfl)) | (refine' grow_lit rfl ?wt120 ?run120 ?put120 ?next120; (case wt120 => rfl); (case run120 => (intro w' hS H; clear H; (obtain ⟨g0, g1, -, -⟩ := (KW.out.keep hS).o2); clear hS; go_simp; first | done | exact rfl)))); (case put120 => (simp only [Act.put, List.setIfInBounds_toArray, List.set_cons_zero, List.set_cons_succ]; first | done | exact rfl)); (case' next120 => skip)
  (first | (refine' grow_skip rfl ?wt121 ?put121 ?next121; (case wt121 => rfl)) | (refine' grow_lit rfl ?wt121 ?run121 ?put121 ?next121; (case wt121 => rfl); (case run121 => (intro w' hS H; clear H; (obtain ⟨g0, g1, -, -⟩ := (KW.out.keep hS).o2); clear hS; go_simp; first | done | exact rfl)))); (case put121 => (simp only [Act.put, List.setIfInBounds_toArray, List.set_cons_zero, List.set_cons_succ]; first | done | exact rfl)); (case' next121 => skip)
  (first | (refine' grow_skip rfl ?wt122 ?put122 ?next122; (case wt122 => rfl)) | (refine' grow_lit rfl ?wt122 ?run122 ?put122 ?next122; (case wt122 => rfl); (case run122 => (intro w' hS H; clear H; (obtain ⟨g0, g1, -, -⟩ := (KW.out.keep hS).o2); clear hS; go_simp; first | done | exact rfl)))); (case put122 => (simp only [Act.put, List.setIfInBounds_toArray, List.set_cons_zero, List.set_cons_succ]; first | done | exact rfl)); (case' next122 => skip)
  (first | (refine' grow_skip rfl ?wt123 ?put123 ?next123; (case wt123 => rfl)) | (refine' grow_lit rfl ?wt123 ?run123 ?put123 ?next123; (case wt123 => rfl); (case run123 => (intro w' hS H; clear H; (obtain ⟨g0, g1, -, -⟩ := (KW.out.keep hS).o2); clear hS; go_simp; first | done | exact rfl)))); (case put123 => (simp only [Act.put, List.setIfInBounds_toArray, List.set_cons_zero, List.set_cons_succ]; first | done | exact rfl)); (case' next123 => skip)
  (first | (refine' grow_skip rfl ?wt124 ?put124 ?next124; (case wt124 => rfl)) | (refine' grow_lit rfl ?wt124 ?run124 ?put124 ?next124; (case wt124 => rfl); (case run124 => (intro w' hS H; clear H; (obtain ⟨g0, g1, -, -⟩ := (KW.out.keep hS).o2); clear hS; go_simp; first | done | exact rfl)))); (case put124 => (simp only [Act.put, List.setIfInBounds_toArray, List.set_cons_zero, List.set_cons_succ]; first | done | exact rfl)); (case' next124 => skip)
  (first | (refine' grow_skip rfl ?wt125 ?put125 ?next125; (case wt125 => rfl)) | (refine' grow_lit rfl ?wt125 ?run125 ?put125 ?next125; (case wt125 => rfl); (case run125 => (intro w' hS H; clear H; (obtain ⟨g0, g1, -, -⟩ := (KW.out.keep hS).o2); clear hS; go_simp; first | done | exact rfl)))); (case put125 => (simp only [Act.put, List.setIfInBounds_toArray, List.set_cons_zero, List.set_cons_succ]; first | done | exact rfl)); (case' next125 => skip)
  (first | (refine' grow_skip rfl ?wt126 ?put126 ?next126; (case wt126 => rfl)) | (refine' grow_lit rfl ?wt126 ?run126 ?put126 ?next126; (case wt126 => rfl); (case run126 => (intro w' hS H; clear H; (obtain ⟨g0, g1, -, -⟩ := (KW.out.keep hS).o2); clear hS; go_simp; first | done | exact rfl)))); (case put126 => (simp only [Act.put, List.setIfInBounds_toArray, List.set_cons_zero, List.set_cons_succ]; first | done | exact rfl)); (case' next126 => skip)
  (first | (refine' grow_skip rfl ?wt127 ?put127 ?next127; (case wt127 => rfl)) | (refine' grow_lit rfl ?wt127 ?run127 ?put127 ?next127; (case wt127 => rfl); (case run127 => (intro w' hS H; clear H; (obtain ⟨g0, g1, -, -⟩ := (KW.out.keep hS).o2); clear hS; go_simp; first | done | exact rfl)))); (case put127 => (simp only [Act.put, List.setIfInBounds_toArray, List.set_cons_zero, List.set_cons_succ]; first | done | exact rfl)); (case' next127 => skip)
  (first | (refine' grow_skip rfl ?wt128 ?put128 ?next128; (case wt128 => rfl)) | (refine' grow_lit rfl ?wt128 ?run128 ?put128 ?next128; (case wt128 => rfl); (case run128 => (intro w' hS H; clear H; (obtain ⟨g0, g1, -, -⟩ := (KW.out.keep hS).o2); clear hS; go_simp; first | done | exact rfl)))); (case put128 => (simp only [Act.put, List.setIfInBounds_toArray, List.set_cons_zero, List.set_cons_succ]; first | done | exact rfl)); (case' next128 => skip)
  (first | (refine' grow_skip rfl ?wt129 ?put129 ?next129; (case wt129 => rfl)) | (refine' grow_lit rfl ?wt129 ?run129 ?put129 ?next129; (case wt129 => rfl); (case run129 => (intro w' hS H; clear H; (obtain ⟨g0, g1, -, -⟩ := (KW.out.keep hS).o2); clear hS; go_simp; first | done | exact rfl)))); (case put129 => (simp only [Act.put, List.setIfInBounds_toArray, List.set_cons_zero, List.set_cons_succ]; first | done | exact rfl)); (case' next129 => skip)
  (first | (refine' grow_skip rfl ?wt130 ?put130 ?next130; (case wt130 => rfl)) | (refine' grow_lit rfl ?wt130 ?run130 ?put130 ?next130; (case wt130 => rfl); (case run130 => (intro w' hS H; clear H; (obtain ⟨g0, g1, -, -⟩ := (KW.out.keep hS).o2); clear hS; go_simp; first | done | exact rfl)))); (case put130 => (simp only [Act.put, List.setIfInBounds_toArray, List.set_cons_zero, List.set_cons_succ]; first | done | exact rfl)); (case' next130 => skip)
  (first | (refine' grow_skip rfl ?wt131 ?put131 ?next131; (case wt131 => rfl)) | (refine' grow_lit rfl ?wt131 ?run131 ?put131 ?next131; (case wt131 => rfl); (case run131 => (intro w' hS H; clear H; (obtain ⟨g0, g1, -, -⟩ := (KW.out.keep hS).o2); clear hS; go_simp; first | done | exact rfl)))); (case put131 => (simp only [Act.put, List.setIfInBounds_toArray, List.set_cons_zero, List.set_cons_succ]; first | done | exact rfl)); (case' next131 => skip)
  (first | (refine' grow_skip rfl ?wt132 ?put132 ?next132; (case wt132 => rfl)) | (refine' grow_lit rfl ?wt132 ?run132 ?put132 ?next132; (case wt132 => rfl); (case run132 => (intro w' hS H; clear H; (obtain ⟨g0, g1, -, -⟩ := (KW.out.keep hS).o2); clear hS; go_simp; first | done | exact rfl)))); (case put132 => (simp only [Act.put, List.setIfInBounds_toArray, List.set_cons_zero, List.set_cons_succ]; first | done | exact rfl)); (case' next132 => skip)
  intro w10 hb _
  have HF := Lib.hid (bOn BB.out hb)
  clear hb hGS
  go_wp2_with fail
  go_ret
  exact ⟨rfl, HF.out⟩

set_option maxHeartbeats 8000000 in
set_option maxRecDepth 100000 in
theorem most_101 (v M i A : Int) (w : World) (hg : ErrT w) (hv0 : 0 ≤ v) (hv1 : v ≤ 18446744073709551615) (hi0 : -9223372036854775808 ≤ i) (hi1 : i ≤ 9223372036854775807) (hV : v ≤ M) (hA : M < A) (hN : i < 0) (hAi : A = 0 - i) :
    Calls Tryd.prog 5 #[.int .u64 v, .int .u64 M, .int .i64 i] w fun e w' => e = .returned (.bool true) ∧ Below w.heap.size w w' := by
  have hf := foldZ_in hi0 hi1
  have hrd := rd_enc hv0 hv1 []
  have hrd2 := rd_enc hf.1 hf.2 []
  rw [List.append_nil] at hrd hrd2
  have ham : amtZ (foldZ i) = A := by rw [amtZ_foldZ]; split <;> omega
  have hrU : uintR (enc v) 0 0 M = (v, (enc v).length, 0) := by unfold uintR; rw [if_pos rfl, List.drop_zero, hrd, if_pos rfl, if_neg (by show ¬ M < v; omega)]; simp
  have hrI : intR (enc (foldZ i)) 0 0 M = (0, 0, 8) := by unfold intR; rw [if_pos rfl, List.drop_zero, hrd2, if_pos rfl, if_pos (by show M < amtZ (foldZ i); omega)]
  clear hrd hrd2 ham hf
  have hX : IntKind.u64.wrap i = i + 18446744073709551616 := by simp [IntKind.wrap, IntKind.bits, IntKind.signed]; omega
  have hX2 : IntKind.u64.wrap (-(i + 18446744073709551616)) = A := by simp [IntKind.wrap, IntKind.bits, IntKind.signed]; omega
  clear hAi
  go_enter Tryd.func5, Tryd.ntmps5
  go_wp2_with fail
  have B_0 := Lib.hid (Below.refl w.heap.size w)
  have HG := Lib.hid hg
  clear hg
  refine (known4_any _ HG.out).mono ?_
  rintro ev w1 ⟨rfl, hb⟩
  have B_1 := Lib.hid (bOn B_0.out hb)
  clear hb B_0
  go_wp2_with fail
  refine (ruint_any v _ hv0 hv1).mono ?_
  rintro ev w2 ⟨u1, x1, rfl, h1, -, hb⟩
  have B_2 := Lib.hid (bOn B_1.out hb)
  have U_2 := Lib.hid (show U8s w2 u1 (enc v) from ⟨x1, h1⟩)
  clear hb B_1 h1
  go_wp2_with fail
  refine (new_any u1 (enc v) _ U_2.out (enc_in8 hv0 hv1) (by have := enc_len v; omega)).mono ?_
  rintro ev w3 ⟨b, rfl, hr, hb⟩
  have U_3 := Lib.hid (U_2.out.below hb)
  have B_3 := Lib.hid (bOn B_2.out hb)
  have z1 : w.heap.size ≤ b := by have h1 := hr.lt; have h2 := B_2.out.size; omega
  have R_3 := Lib.hid (hr)
  clear U_3
  clear hb U_2 B_2 hr
  go_wp2_with fail
  refine (rint_any i _ hi0 hi1).mono ?_
  rintro ev w4 ⟨u2, x2, rfl, h1, -, hb⟩
  have R_4 := Lib.hid (R_3.out.below hb)
  have B_4 := Lib.hid (bOn B_3.out hb)
  have U_4 := Lib.hid (show U8s w4 u2 (enc (foldZ i)) from ⟨x2, h1⟩)
  clear hb R_3 B_3 h1
  go_wp2_with fail
  refine (new_any u2 (enc (foldZ i)) _ U_4.out (enc_in8 (foldZ_in hi0 hi1).1 (foldZ_in hi0 hi1).2) (by have := enc_len (foldZ i); omega)).mono ?_
  rintro ev w5 ⟨c, rfl, hr, hb⟩
  have R_5 := Lib.hid (R_4.out.below hb)
  have U_5 := Lib.hid (U_4.out.below hb)
  have B_5 := Lib.hid (bOn B_4.out hb)
  have z2 : b < c := by have h1 := hr.lt; have h2 := R_4.out.lt; omega
  have z3 : b < w4.heap.size := R_4.out.lt.2.1
  have S_5 := Lib.hid (hr)
  clear U_5
  clear hb R_4 U_4 B_4 hr
  go_wp2_with fail
  refine (vU (V := v) (a' := (enc v).length) (e' := 0) R_5.out hrU).mono ?_
  rintro ev w6 ⟨rfl, hr, hb⟩
  have S_6 := Lib.hid (S_5.out.but hb (Or.inl z3))
  have B_6 := Lib.hid (bOnB B_5.out hb z1)
  have R_6 := Lib.hid (hr)
  clear hb R_5 S_5 B_5 hr
  go_wp2_with fail
  refine (vI (V := 0) (a' := 0) (e' := 8) S_6.out hrI).mono ?_
  rintro ev w7 ⟨rfl, hr, hb⟩
  have R_7 := Lib.hid (R_6.out.but hb (Or.inr z2))
  have B_7 := Lib.hid (bOnB B_6.out hb (by omega))
  have S_7 := Lib.hid (hr)
  clear hb S_6 R_6 B_6 hr
  go_wp2_with fail
  refine (vAt6 0 8 _).mono ?_
  rintro ev w8 ⟨wv, rfl, h1, hb⟩
  have R_8 := Lib.hid (R_7.out.below hb)
  have S_8 := Lib.hid (S_7.out.below hb)
  have B_8 := Lib.hid (bOn B_7.out hb)
  have U_8 := Lib.hid (h1)
  clear hb R_7 S_7 B_7 h1
  obtain ⟨q, n, c2, hwv⟩ := U_8.out.2
  subst hwv
  go_wp2_with fail
  obtain ⟨W, hW⟩ := named (w8.alloc (.cells #[.slice q n c2, .int .i64 8] 41))
  rw [← hW]
  have hb : Below w8.heap.size w8 W := by rw [hW]; exact below_new8 _
  have KW : Hid (Blk W w8.heap.size #[.slice q n c2, .int .i64 8] 41) := by rw [hW]; exact Lib.hid (Blk.new _ _ _ _ rfl)
  have R := Lib.hid (R_8.out.below hb)
  have S := Lib.hid (S_8.out.below hb)
  have U := Lib.hid (U_8.out.below hb)
  have G := Lib.hid (HG.out.old (bOn B_8.out hb))
  have BB := Lib.hid (bOn B_8.out hb)
  clear hb hW HG R_8 S_8 U_8 B_8
  have d1 : decide (v ≤ M) = true := by simp; omega
  have d2 : decide (M < v) = false := by simp; omega
  have d3 : decide (A ≤ M) = false := by simp; omega
  have d4 : decide (M < A) = true := by simp; omega
  have hGS : Grows (fun w' => Below W.heap.size W w') := Grows.below W
  refine' wp_growL _ (fun w' => Below W.heap.size W w') [[], [], [0, 1], [2], [3], [3], [3, 4, 5], [3, 6], [7], [7, 8], [7, 9], [3, 7, 10], [3, 11], [12], [13], [13], [13, 14, 15], [13, 16], [17], [17, 18], [17, 19], [20], [20, 21], [20, 22], [17, 20, 23], [17, 24], [25], [25, 26], [25], [25, 27, 28], [25, 29], [17, 25, 30], [13, 17, 31], [13, 32]] (Fact.lit _ :: Fact.lit _ :: Fact.lit _ :: Fact.lit _ :: Fact.lit _ :: Fact.lit _ :: Fact.lit _ :: Fact.lit _ :: Fact.lit _ :: Fact.lit _ :: Fact.lit _ :: Fact.lit _ :: Fact.lit _ :: Fact.lit _ :: Fact.lit _ :: Fact.lit _ :: Fact.lit _ :: Fact.lit _ :: Fact.lit _ :: Fact.lit _ :: Fact.lit _ :: Fact.lit _ :: Fact.lit _ :: Fact.lit _ :: Fact.lit _ :: Fact.lit _ :: Fact.lit _ :: Fact.lit _ :: Fact.lit _ :: Fact.lit _ :: Fact.lit _ :: Fact.lit _ :: Fact.lit _ :: Fact.lit _ :: []) (by kernel_rfl) rfl (by kernel_rfl) (Below.refl _ _).drew ?seqp
  case' seqp => skip
  (first | (refine' grow_skip rfl ?wt133 ?put133 ?next133; (case wt133 => rfl)) | (refine' grow_lit rfl ?wt133 ?run133 ?put133 ?next133; (case wt133 => rfl); (case run133 => (intro w' hS H; clear H; (obtain ⟨g0, g1, -, -⟩ := (KW.out.keep hS).o2); clear hS; go_simp; first | done | exact rfl)))); (case put133 => (simp only [Act.put, List.setIfInBounds_toArray, List.set_cons_zero, List.set_cons_succ]; first | done | exact rfl)); (case' next133 => skip)
  (first | (refine' grow_skip rfl ?wt134 ?put134 ?next134; (case wt134 => rfl)) | (refine' grow_lit rfl ?wt134 ?run134 ?put134 ?next134; (case wt134 => rfl); (case run134 => (intro w' hS H; clear H; (obtain ⟨g0, g1, -, -⟩ := (KW.out.keep hS).o2); clear hS; go_simp; first | done | exact rfl)))); (case put134 => (simp only [Act.put, List.setIfInBounds_toArray, List.set_cons_zero, List.set_cons_succ]; first | done | exact rfl)); (case' next134 => skip)
  (first | (refine' grow_skip rfl ?wt135 ?put135 ?next135; (case wt135 => rfl)) | (refine' grow_lit rfl ?wt135 ?run135 ?put135 ?next135; (case wt135 => rfl); (case run135 => (intro w' hS H; clear H; (obtain ⟨g0, g1, -, -⟩ := (KW.out.keep hS).o2); clear hS; go_simp; first | done | exact rfl)))); (case put135 => (simp only [Act.put, List.setIfInBounds_toArray, List.set_cons_zero, List.set_cons_succ]; first | done | exact rfl)); (case' next135 => skip)
  (first | (refine' grow_skip rfl ?wt136 ?put136 ?next136; (case wt136 => rfl)) | (refine' grow_lit rfl ?wt136 ?run136 ?put136 ?next136; (case wt136 => rfl); (case run136 => (intro w' hS H; clear H; (obtain ⟨g0, g1, -, -⟩ := (KW.out.keep hS).o2); clear hS; go_simp; first | done | exact rfl)))); (case put136 => (simp only [Act.put, List.setIfInBounds_toArray, List.set_cons_zero, List.set_cons_succ]; first | done | exact rfl)); (case' next136 => skip)
  (first | (refine' grow_skip rfl ?wt137 ?put137 ?next137; (case wt137 => rfl)) | (refine' grow_lit rfl ?wt137 ?run137 ?put137 ?next137; (case wt137 => rfl); (case run137 => (intro w' hS H; clear H; (obtain ⟨g0, g1, -, -⟩ := (KW.out.keep hS).o2); clear hS; go_simp; first | done | exact rfl)))); (case put137 => (simp only [Act.put, List.setIfInBounds_toArray, List.set_cons_zero, List.set_cons_succ]; first | done | exact rfl)); (case' next137 => skip)
  (first | (refine' grow_skip rfl ?wt138 ?put138 ?next138; (case wt138 => rfl)) | (refine' grow_lit rfl ?wt138 ?run138 ?put138 ?next138; (case wt138 => rfl); (case run138 => (intro w' hS H; clear H; (obtain ⟨g0, g1, -, -⟩ := (KW.out.keep hS).o2); clear hS; go_simp; first | done | exact rfl)))); (case put138 => (simp only [Act.put, List.setIfInBounds_toArray, List.set_cons_zero, List.set_cons_succ]; first | done | exact rfl)); (case' next138 => skip)
  (first | (refine' grow_skip rfl ?wt139 ?put139 ?next139; (case wt139 => rfl)) | (refine' grow_lit rfl ?wt139 ?run139 ?put139 ?next139; (case wt139 => rfl); (case run139 => (intro w' hS H; clear H; (obtain ⟨g0, g1, -, -⟩ := (KW.out.keep hS).o2); clear hS; go_simp; first | done | exact rfl)))); (case put139 => (simp only [Act.put, List.setIfInBounds_toArray, List.set_cons_zero, List.set_cons_succ]; first | done | exact rfl)); (case' next139 => skip)
  (first | (refine' grow_skip rfl ?wt140 ?put140 ?next140; (case wt140 => rfl)) | (refine' grow_lit rfl ?wt140 ?run140 ?put140 ?next140; (case wt140 => rfl); (case run140 => (intro w' hS H; clear H; (obtain ⟨g0, g1, -, -⟩ := (KW.out.keep hS).o2); clear hS; go_simp; first | done | exact rfl)))); (case put140 => (simp only [Act.put, List.setIfInBounds_toArray, List.set_cons_zero, List.set_cons_succ]; first | done | exact rfl)); (case' next140 => skip)
  (first | (refine' grow_skip rfl ?wt141 ?put141 ?next141; (case wt141 => rfl)) | (refine' grow_lit rfl ?wt141 ?run141 ?put141 ?next141; (case wt141 => rfl); (case run141 => (intro w' hS H; clear H; (obtain ⟨g0, g1, -, -⟩ := (KW.out.keep hS).o2); clear hS; go_simp; first | done | exact rfl)))); (case put141 => (simp only [Act.put, List.setIfInBounds_toArray, List.set_cons_zero, List.set_cons_succ]; first | done | exact rfl)); (case' next141 => skip)
  (refine' grow_call (u := .nilIface) rfl Tryd.func16 (by kernel_rfl) rfl hGS rfl ?wt265 ?run265 ?put265 ?next265; (case wt265 => rfl); (case run265 => (intro w' hS H; exact vDone0 (R.out.below hS) (Nat.lt_irrefl _))); (case put265 => (simp only [Act.put, List.setIfInBounds_toArray, List.set_cons_zero, List.set_cons_succ]; first | done | exact rfl)); (case' next265 => skip))
  (first | (refine' grow_skip rfl ?wt142 ?put142 ?next142; (case wt142 => rfl)) | (refine' grow_lit rfl ?wt142 ?run142 ?put142 ?next142; (case wt142 => rfl); (case run142 => (intro w' hS H; clear H; (obtain ⟨g0, g1, -, -⟩ := (KW.out.keep hS).o2); clear hS; go_simp; first | done | exact rfl)))); (case put142 => (simp only [Act.put, List.setIfInBounds_toArray, List.set_cons_zero, List.set_cons_succ]; first | done | exact rfl)); (case' next142 => skip)
  (first | (refine' grow_skip rfl ?wt143 ?put143 ?next143; (case wt143 => rfl)) | (refine' grow_lit rfl ?wt143 ?run143 ?put143 ?next143; (case wt143 => rfl); (case run143 => (intro w' hS H; clear H; (obtain ⟨g0, g1, -, -⟩ := (KW.out.keep hS).o2); clear hS; go_simp; first | done | exact rfl)))); (case put143 => (simp only [Act.put, List.setIfInBounds_toArray, List.set_cons_zero, List.set_cons_succ]; first | done | exact rfl)); (case' next143 => skip)
  (first | (refine' grow_skip rfl ?wt144 ?put144 ?next144; (case wt144 => rfl)) | (refine' grow_lit rfl ?wt144 ?run144 ?put144 ?next144; (case wt144 => rfl); (case run144 => (intro w' hS H; clear H; (obtain ⟨g0, g1, -, -⟩ := (KW.out.keep hS).o2); clear hS; go_simp; first | done | exact rfl)))); (case put144 => (simp only [Act.put, List.setIfInBounds_toArray, List.set_cons_zero, List.set_cons_succ]; first | done | exact rfl)); (case' next144 => skip)
  (first | (refine' grow_skip rfl ?wt145 ?put145 ?next145; (case wt145 => rfl)) | (refine' grow_lit rfl ?wt145 ?run145 ?put145 ?next145; (case wt145 => rfl); (case run145 => (intro w' hS H; clear H; (obtain ⟨g0, g1, -, -⟩ := (KW.out.keep hS).o2); clear hS; go_simp; first | done | exact rfl)))); (case put145 => (simp only [Act.put, List.setIfInBounds_toArray, List.set_cons_zero, List.set_cons_succ]; first | done | exact rfl)); (case' next145 => skip)
  (first | (refine' grow_skip rfl ?wt146 ?put146 ?next146; (case wt146 => rfl)) | (refine' grow_lit rfl ?wt146 ?run146 ?put146 ?next146; (case wt146 => rfl); (case run146 => (intro w' hS H; clear H; (obtain ⟨g0, g1, -, -⟩ := (KW.out.keep hS).o2); clear hS; go_simp; first | done | exact rfl)))); (case put146 => (simp only [Act.put, List.setIfInBounds_toArray, List.set_cons_zero, List.set_cons_succ]; first | done | exact rfl)); (case' next146 => skip)
  (first | (refine' grow_skip rfl ?wt147 ?put147 ?next147; (case wt147 => rfl)) | (refine' grow_lit rfl ?wt147 ?run147 ?put147 ?next147; (case wt147 => rfl); (case run147 => (intro w' hS H; clear H; (obtain ⟨g0, g1, -, -⟩ := (KW.out.keep hS).o2); clear hS; go_simp; first | done | exact rfl)))); (case put147 => (simp only [Act.put, List.setIfInBounds_toArray, List.set_cons_zero, List.set_cons_succ]; first | done | exact rfl)); (case' next147 => skip)
  (first | (refine' grow_skip rfl ?wt148 ?put148 ?next148; (case wt148 => rfl)) | (refine' grow_lit rfl ?wt148 ?run148 ?put148 ?next148; (case wt148 => rfl); (case run148 => (intro w' hS H; clear H; (obtain ⟨g0, g1, -, -⟩ := (KW.out.keep hS).o2); clear hS; go_simp; first | done | exact rfl)))); (case put148 => (simp only [Act.put, List.setIfInBounds_toArray, List.set_cons_zero, List.set_cons_succ]; first | done | exact rfl)); (case' next148 => skip)
  (first | (refine' grow_skip rfl ?wt149 ?put149 ?next149; (case wt149 => rfl)) | (refine' grow_lit rfl ?wt149 ?run149 ?put149 ?next149; (case wt149 => rfl); (case run149 => (intro w' hS H; clear H; (obtain ⟨g0, g1, -, -⟩ := (KW.out.keep hS).o2); clear hS; go_simp; first | done | exact rfl)))); (case put149 => (simp only [Act.put, List.setIfInBounds_toArray, List.set_cons_zero, List.set_cons_succ]; first | done | exact rfl)); (case' next149 => skip)
  (first | (refine' grow_skip rfl ?wt150 ?put150 ?next150; (case wt150 => rfl)) | (refine' grow_lit rfl ?wt150 ?run150 ?put150 ?next150; (case wt150 => rfl); (case run150 => (intro w' hS H; clear H; (obtain ⟨g0, g1, -, -⟩ := (KW.out.keep hS).o2); clear hS; go_simp; first | done | exact rfl)))); (case put150 => (simp only [Act.put, List.setIfInBounds_toArray, List.set_cons_zero, List.set_cons_succ]; first | done | exact rfl)); (case' next150 => skip)
  (first | (refine' grow_skip rfl ?wt151 ?put151 ?next151; (case wt151 => rfl)) | (refine' grow_lit rfl ?wt151 ?run151 ?put151 ?next151; (case wt151 => rfl); (case run151 => (intro w' hS H; clear H; (obtain ⟨g0, g1, -, -⟩ := (KW.out.keep hS).o2); clear hS; go_simp; first | done | exact rfl)))); (case put151 => (simp only [Act.put, List.setIfInBounds_toArray, List.set_cons_zero, List.set_cons_succ]; first | done | exact rfl)); (case' next151 => skip)
  (first | (refine' grow_skip rfl ?wt152 ?put152 ?next152; (case wt152 => rfl)) | (refine' grow_lit rfl ?wt152 ?run152 ?put152 ?next152; (case wt152 => rfl); (case run152 => (intro w' hS H; clear H; (obtain ⟨g0, g1, -, -⟩ := (KW.out.keep hS).o2); clear hS; go_simp; first | done | exact rfl)))); (case put152 => (simp only [Act.put, List.setIfInBounds_toArray, List.set_cons_zero, List.set_cons_succ]; first | done | exact rfl)); (case' next152 => skip)
  (first | (refine' grow_skip rfl ?wt153 ?put153 ?next153; (case wt153 => rfl)) | (refine' grow_lit rfl ?wt153 ?run153 ?put153 ?next153; (case wt153 => rfl); (case run153 => (intro w' hS H; clear H; (obtain ⟨g0, g1, -, -⟩ := (KW.out.keep hS).o2); clear hS; go_simp; first | done | exact rfl)))); (case put153 => (simp only [Act.put, List.setIfInBounds_toArray, List.set_cons_zero, List.set_cons_succ]; first | done | exact rfl)); (case' next153 => skip)
  (first | (refine' grow_skip rfl ?wt154 ?put154 ?next154; (case wt154 => rfl)) | (refine' grow_lit rfl ?wt154 ?run154 ?put154 ?next154; (case wt154 => rfl); (case run154 => (intro w' hS H; clear H; (obtain ⟨g0, g1, -, -⟩ := (KW.out.keep hS).o2); clear hS; go_simp; first | done | exact rfl)))); (case put154 => (simp only [Act.put, List.setIfInBounds_toArray, List.set_cons_zero, List.set_cons_succ]; first | done | exact rfl)); (case' next154 => skip)
  (first | (refine' grow_skip rfl ?wt155 ?put155 ?next155; (case wt155 => rfl)) | (refine' grow_lit rfl ?wt155 ?run155 ?put155 ?next155; (case wt155 => rfl); (case run155 => (intro w' hS H; clear H; (obtain ⟨g0, g1, -, -⟩ := (KW.out.keep hS).o2); clear hS; go_simp; first | done | exact rfl)))); (case put155 => (simp only [Act.put, List.setIfInBounds_toArray, List.set_cons_zero, List.set_cons_succ]; first | done | exact rfl)); (case' next155 => skip)
  (first | (refine' grow_skip rfl ?wt156 ?put156 ?next156; (case wt156 => rfl)) | (refine' grow_lit rfl ?wt156 ?run156 ?put156 ?next156; (case wt156 => rfl); (case run156 => (intro w' hS H; clear H; (obtain ⟨g0, g1, -, -⟩ := (KW.out.keep hS).o2); clear hS; go_simp; first | done | exact rfl)))); (case put156 => (simp only [Act.put, List.setIfInBounds_toArray, List.set_cons_zero, List.set_cons_succ]; first | done | exact rfl)); (case' next156 => skip)
  (first | (refine' grow_skip rfl ?wt157 ?put157 ?next157; (case wt157 => rfl)) | (refine' grow_lit rfl ?wt157 ?run157 ?put157 ?next157; (case wt157 => rfl); (case run157 => (intro w' hS H; clear H; (obtain ⟨g0, g1, -, -⟩ := (KW.out.keep hS).o2); clear hS; go_simp; first | done | exact rfl)))); (case put157 => (simp only [Act.put, List.setIfInBounds_toArray, List.set_cons_zero, List.set_cons_succ]; first | done | exact rfl)); (case' next157 => skip)
  (first | (refine' grow_skip rfl ?wt158 ?put158 ?next158; (case wt158 => rfl)) | (refine' grow_lit rfl ?wt158 ?run158 ?put158 ?next158; (case wt158 => rfl); (case run158 => (intro w' hS H; clear H; (obtain ⟨g0, g1, -, -⟩ := (KW.out.keep hS).o2); clear hS; go_simp; first | done | exact rfl)))); (case put158 => (simp only [Act.put, List.setIfInBounds_toArray, List.set_cons_zero, List.set_cons_succ]; first | done | exact rfl)); (case' next158 => skip)
  (first | (refine' grow_skip rfl ?wt159 ?put159 ?next159; (case wt159 => rfl)) | (refine' grow_lit rfl ?wt159 ?run159 ?put159 ?next159; (case wt159 => rfl); (case run159 => (intro w' hS H; clear H; (obtain ⟨g0, g1, -, -⟩ := (KW.out.keep hS).o2); clear hS; go_simp; first | done | exact rfl)))); (case put159 => (simp only [Act.put, List.setIfInBounds_toArray, List.set_cons_zero, List.set_cons_succ]; first | done | exact rfl)); (case' next159 => skip)
  (first | (refine' grow_skip rfl ?wt160 ?put160 ?next160; (case wt160 => rfl)) | (refine' grow_lit rfl ?wt160 ?run160 ?put160 ?next160; (case wt160 => rfl); (case run160 => (intro w' hS H; clear H; (obtain ⟨g0, g1, -, -⟩ := (KW.out.keep hS).o2); clear hS; go_simp; first | done | exact rfl)))); (case put160 => (simp only [Act.put, List.setIfInBounds_toArray, List.set_cons_zero, List.set_cons_succ]; first | done | exact rfl)); (case' next160 => skip)
  (first | (refine' grow_skip rfl ?wt161 ?put161 ?next161; (case wt161 => rfl)) | (refine' grow_lit rfl ?wt161 ?run161 ?put161 ?next161; (case wt161 => rfl); (case run161 => (intro w' hS H; clear H; (obtain ⟨g0, g1, -, -⟩ := (KW.out.keep hS).o2); clear hS; go_simp; first | done | exact rfl)))); (case put161 => (simp only [Act.put, List.setIfInBounds_toArray, List.set_cons_zero, List.set_cons_succ]; first | done | exact rfl)); (case' next161 => skip)
  (first | (refine' grow_skip rfl ?wt162 ?put162 ?next162; (case wt162 => rfl)) | (refine' grow_lit rfl ?wt162 ?run162 ?put162 ?next162; (case wt162 => rfl); (case run162 => (intro w' hS H; clear H; (obtain ⟨g0, g1, -, -⟩ := (KW.out.keep hS).o2); clear hS; go_simp; first | done | exact rfl)))); (case put162 => (simp only [Act.put, List.setIfInBounds_toArray, List.set_cons_zero, List.set_cons_succ]; first | done | exact rfl)); (case' next162 => skip)
  (first | (refine' grow_skip rfl ?wt163 ?put163 ?next163; (case wt163 => rfl)) | (refine' grow_lit rfl ?wt163 ?run163 ?put163 ?next163; (case wt163 => rfl); (case run163 => (intro w' hS H; clear H; (obtain ⟨g0, g1, -, -⟩ := (KW.out.keep hS).o2); clear hS; go_simp; first | done | exact rfl)))); (case put163 => (simp only [Act.put, List.setIfInBounds_toArray, List.set_cons_zero, List.set_cons_succ]; first | done | exact rfl)); (case' next163 => skip)
  (first | (refine' grow_skip rfl ?wt164 ?put164 ?next164; (case wt164 => rfl)) | (refine' grow_lit rfl ?wt164 ?run164 ?put164 ?next164; (case wt164 => rfl); (case run164 => (intro w' hS H; clear H; (obtain ⟨g0, g1, -, -⟩ := (KW.out.keep hS).o2); clear hS; go_simp; first | done | exact rfl)))); (case put164 => (simp only [Act.put, List.setIfInBounds_toArray, List.set_cons_zero, List.set_cons_succ]; first | done | exact rfl)); (case' next164 => skip)
  (first | (refine' grow_skip rfl ?wt165 ?put165 ?next165; (case wt165 => rfl)) | (refine' grow_lit rfl ?wt165 ?run165 ?put165 ?next165; (case wt165 => rfl); (case run165 => (intro w' hS H; clear H; (obtain ⟨g0, g1, -, -⟩ := (KW.out.keep hS).o2); clear hS; go_simp; first | done | exact rfl)))); (case put165 => (simp only [Act.put, List.setIfInBounds_toArray, List.set_cons_zero, List.set_cons_succ]; first | done | exact rfl)); (case' next165 => skip)
  intro w9 hb _
  have B1 := Lib.hid (bOn BB.out hb)
  have KW1 := Lib.hid (KW.out.keep hb)
  have S1 := Lib.hid (S.out.below hb)
  have U1 := Lib.hid (U.out.below hb)
  have G1 := Lib.hid (ErrT.old hb G.out)
  clear hb hGS R S U G BB KW
  have S := S1
  have U := U1
  have G := G1
  have KW := KW1
  have BB := B1
  clear S1 U1 G1 B1 KW1
  go_wp2_with fail
  have hGS : Grows (fun w' => Below w9.heap.size w9 w') := Grows.below w9
  refine' wp_growL _ (fun w' => Below w9.heap.size w9 w') [[], [], [0, 1], [2], [3], [3], [3, 4, 5], [3, 6], [7], [8], [8, 9], [8, 10], [8, 11], [12], [13], [13], [13, 14, 15], [13, 16], [17], [17, 18], [13, 17, 19], [13, 20], [21], [21, 22], [21, 23], [13, 21, 24], [13, 25], [26], [26, 27], [26], [26, 28, 29], [13, 26, 30], [13, 31], [32]] (Fact.lit _ :: Fact.lit _ :: Fact.lit _ :: Fact.lit _ :: Fact.lit _ :: Fact.lit _ :: Fact.lit _ :: Fact.lit _ :: Fact.lit _ :: Fact.lit _ :: Fact.lit _ :: Fact.lit _ :: Fact.lit _ :: Fact.lit _ :: Fact.lit _ :: Fact.lit _ :: Fact.lit _ :: Fact.lit _ :: Fact.lit _ :: Fact.lit _ :: Fact.lit _ :: Fact.lit _ :: Fact.lit _ :: Fact.lit _ :: Fact.lit _ :: Fact.lit _ :: Fact.lit _ :: Fact.lit _ :: Fact.prop _ _ :: Fact.lit _ :: Fact.lit _ :: Fact.lit _ :: Fact.lit _ :: Fact.lit _ :: []) (by kernel_rfl) rfl (by kernel_rfl) (Below.refl _ _).drew ?seqq
  case' seqq => skip
  (first | (refine' grow_skip rfl ?wt166 ?put166 ?next166; (case wt166 => rfl)) | (refine' grow_lit rfl ?wt166 ?run166 ?put166 ?next166; (case wt166 => rfl); (case run166 => (intro w' hS H; clear H; (obtain ⟨g0, g1, -, -⟩ := (KW.out.keep hS).o2); clear hS; go_simp; first | done | exact rfl)))); (case put166 => (simp only [Act.put, List.setIfInBounds_toArray, List.set_cons_zero, List.set_cons_succ]; first | done | exact rfl)); (case' next166 => skip)
  (first | (refine' grow_skip rfl ?wt167 ?put167 ?next167; (case wt167 => rfl)) | (refine' grow_lit rfl ?wt167 ?run167 ?put167 ?next167; (case wt167 => rfl); (case run167 => (intro w' hS H; clear H; (obtain ⟨g0, g1, -, -⟩ := (KW.out.keep hS).o2); clear hS; go_simp; first | done | exact rfl)))); (case put167 => (simp only [Act.put, List.setIfInBounds_toArray, List.set_cons_zero, List.set_cons_succ]; first | done | exact rfl)); (case' next167 => skip)
  (first | (refine' grow_skip rfl ?wt168 ?put168 ?next168; (case wt168 => rfl)) | (refine' grow_lit rfl ?wt168 ?run168 ?put168 ?next168; (case wt168 => rfl); (case run168 => (intro w' hS H; clear H; (obtain ⟨g0, g1, -, -⟩ := (KW.out.keep hS).o2); clear hS; go_simp; first | done | exact rfl)))); (case put168 => (simp only [Act.put, List.setIfInBounds_toArray, List.set_cons_zero, List.set_cons_succ]; first | done | exact rfl)); (case' next168 => skip)
  (first | (refine' grow_skip rfl ?wt169 ?put169 ?next169; (case wt169 => rfl)) | (refine' grow_lit rfl ?wt169 ?run169 ?put169 ?next169; (case wt169 => rfl); (case run169 => (intro w' hS H; clear H; (obtain ⟨g0, g1, -, -⟩ := (KW.out.keep hS).o2); clear hS; go_simp; first | done | exact rfl)))); (case put169 => (simp only [Act.put, List.setIfInBounds_toArray, List.set_cons_zero, List.set_cons_succ]; first | done | exact rfl)); (case' next169 => skip)
  (first | (refine' grow_skip rfl ?wt170 ?put170 ?next170; (case wt170 => rfl)) | (refine' grow_lit rfl ?wt170 ?run170 ?put170 ?next170; (case wt170 => rfl); (case run170 => (intro w' hS H; clear H; (obtain ⟨g0, g1, -, -⟩ := (KW.out.keep hS).o2); clear hS; go_simp; first | done | exact rfl)))); (case put170 => (simp only [Act.put, List.setIfInBounds_toArray, List.set_cons_zero, List.set_cons_succ]; first | done | exact rfl)); (case' next170 => skip)
  (first | (refine' grow_skip rfl ?wt171 ?put171 ?next171; (case wt171 => rfl)) | (refine' grow_lit rfl ?wt171 ?run171 ?put171 ?next171; (case wt171 => rfl); (case run171 => (intro w' hS H; clear H; (obtain ⟨g0, g1, -, -⟩ := (KW.out.keep hS).o2); clear hS; go_simp; first | done | exact rfl)))); (case put171 => (simp only [Act.put, List.setIfInBounds_toArray, List.set_cons_zero, List.set_cons_succ]; first | done | exact rfl)); (case' next171 => skip)
  (first | (refine' grow_skip rfl ?wt172 ?put172 ?next172; (case wt172 => rfl)) | (refine' grow_lit rfl ?wt172 ?run172 ?put172 ?next172; (case wt172 => rfl); (case run172 => (intro w' hS H; clear H; (obtain ⟨g0, g1, -, -⟩ := (KW.out.keep hS).o2); clear hS; go_simp; first | done | exact rfl)))); (case put172 => (simp only [Act.put, List.setIfInBounds_toArray, List.set_cons_zero, List.set_cons_succ]; first | done | exact rfl)); (case' next172 => skip)
  (first | (refine' grow_skip rfl ?wt173 ?put173 ?next173; (case wt173 => rfl)) | (refine' grow_lit rfl ?wt173 ?run173 ?put173 ?next173; (case wt173 => rfl); (case run173 => (intro w' hS H; clear H; (obtain ⟨g0, g1, -, -⟩ := (KW.out.keep hS).o2); clear hS; go_simp; first | done | exact rfl)))); (case put173 => (simp only [Act.put, List.setIfInBounds_toArray, List.set_cons_zero, List.set_cons_succ]; first | done | exact rfl)); (case' next173 => skip)
  (first | (refine' grow_skip rfl ?wt174 ?put174 ?next174; (case wt174 => rfl)) | (refine' grow_lit rfl ?wt174 ?run174 ?put174 ?next174; (case wt174 => rfl); (case run174 => (intro w' hS H; clear H; (obtain ⟨g0, g1, -, -⟩ := (KW.out.keep hS).o2); clear hS; go_simp; first | done | exact rfl)))); (case put174 => (simp only [Act.put, List.setIfInBounds_toArray, List.set_cons_zero, List.set_cons_succ]; first | done | exact rfl)); (case' next174 => skip)
  (first | (refine' grow_skip rfl ?wt175 ?put175 ?next175; (case wt175 => rfl)) | (refine' grow_lit rfl ?wt175 ?run175 ?put175 ?next175; (case wt175 => rfl); (case run175 => (intro w' hS H; clear H; (obtain ⟨g0, g1, -, -⟩ := (KW.out.keep hS).o2); clear hS; go_simp; first | done | exact rfl)))); (case put175 => (simp only [Act.put, List.setIfInBounds_toArray, List.set_cons_zero, List.set_cons_succ]; first | done | exact rfl)); (case' next175 => skip)
  (first | (refine' grow_skip rfl ?wt176 ?put176 ?next176; (case wt176 => rfl)) | (refine' grow_lit rfl ?wt176 ?run176 ?put176 ?next176; (case wt176 => rfl); (case run176 => (intro w' hS H; clear H; (obtain ⟨g0, g1, -, -⟩ := (KW.out.keep hS).o2); clear hS; go_simp; first | done | exact rfl)))); (case put176 => (simp only [Act.put, List.setIfInBounds_toArray, List.set_cons_zero, List.set_cons_succ]; first | done | exact rfl)); (case' next176 => skip)
  (first | (refine' grow_skip rfl ?wt177 ?put177 ?next177; (case wt177 => rfl)) | (refine' grow_lit rfl ?wt177 ?run177 ?put177 ?next177; (case wt177 => rfl); (case run177 => (intro w' hS H; clear H; (obtain ⟨g0, g1, -, -⟩ := (KW.out.keep hS).o2); clear hS; go_simp; first | done | exact rfl)))); (case put177 => (simp only [Act.put, List.setIfInBounds_toArray, List.set_cons_zero, List.set_cons_succ]; first | done | exact rfl)); (case' next177 => skip)
  (first | (refine' grow_skip rfl ?wt178 ?put178 ?next178; (case wt178 => rfl)) | (refine' grow_lit rfl ?wt178 ?run178 ?put178 ?next178; (case wt178 => rfl); (case run178 => (intro w' hS H; clear H; (obtain ⟨g0, g1, -, -⟩ := (KW.out.keep hS).o2); clear hS; go_simp; first | done | exact rfl)))); (case put178 => (simp only [Act.put, List.setIfInBounds_toArray, List.set_cons_zero, List.set_cons_succ]; first | done | exact rfl)); (case' next178 => skip)
  (first | (refine' grow_skip rfl ?wt179 ?put179 ?next179; (case wt179 => rfl)) | (refine' grow_lit rfl ?wt179 ?run179 ?put179 ?next179; (case wt179 => rfl); (case run179 => (intro w' hS H; clear H; (obtain ⟨g0, g1, -, -⟩ := (KW.out.keep hS).o2); clear hS; go_simp; first | done | exact rfl)))); (case put179 => (simp only [Act.put, List.setIfInBounds_toArray, List.set_cons_zero, List.set_cons_succ]; first | done | exact rfl)); (case' next179 => skip)
  (first | (refine' grow_skip rfl ?wt180 ?put180 ?next180; (case wt180 => rfl)) | (refine' grow_lit rfl ?wt180 ?run180 ?put180 ?next180; (case wt180 => rfl); (case run180 => (intro w' hS H; clear H; (obtain ⟨g0, g1, -, -⟩ := (KW.out.keep hS).o2); clear hS; go_simp; first | done | exact rfl)))); (case put180 => (simp only [Act.put, List.setIfInBounds_toArray, List.set_cons_zero, List.set_cons_succ]; first | done | exact rfl)); (case' next180 => skip)
  (first | (refine' grow_skip rfl ?wt181 ?put181 ?next181; (case wt181 => rfl)) | (refine' grow_lit rfl ?wt181 ?run181 ?put181 ?next181; (case wt181 => rfl); (case run181 => (intro w' hS H; clear H; (obtain ⟨g0, g1, -, -⟩ := (KW.out.keep hS).o2); clear hS; go_simp; first | done | exact rfl)))); (case put181 => (simp only [Act.put, List.setIfInBounds_toArray, List.set_cons_zero, List.set_cons_succ]; first | done | exact rfl)); (case' next181 => skip)
  (first | (refine' grow_skip rfl ?wt182 ?put182 ?next182; (case wt182 => rfl)) | (refine' grow_lit rfl ?wt182 ?run182 ?put182 ?next182; (case wt182 => rfl); (case run182 => (intro w' hS H; clear H; (obtain ⟨g0, g1, -, -⟩ := (KW.out.keep hS).o2); clear hS; go_simp; first | done | exact rfl)))); (case put182 => (simp only [Act.put, List.setIfInBounds_toArray, List.set_cons_zero, List.set_cons_succ]; first | done | exact rfl)); (case' next182 => skip)
  (first | (refine' grow_skip rfl ?wt183 ?put183 ?next183; (case wt183 => rfl)) | (refine' grow_lit rfl ?wt183 ?run183 ?put183 ?next183; (case wt183 => rfl); (case run183 => (intro w' hS H; clear H; (obtain ⟨g0, g1, -, -⟩ := (KW.out.keep hS).o2); clear hS; go_simp; first | done | exact rfl)))); (case put183 => (simp only [Act.put, List.setIfInBounds_toArray, List.set_cons_zero, List.set_cons_succ]; first | done | exact rfl)); (case' next183 => skip)
  (first | (refine' grow_skip rfl ?wt184 ?put184 ?next184; (case wt184 => rfl)) | (refine' grow_lit rfl ?wt184 ?run184 ?put184 ?next184; (case wt184 => rfl); (case run184 => (intro w' hS H; clear H; (obtain ⟨g0, g1, -, -⟩ := (KW.out.keep hS).o2); clear hS; go_simp; first | done | exact rfl)))); (case put184 => (simp only [Act.put, List.setIfInBounds_toArray, List.set_cons_zero, List.set_cons_succ]; first | done | exact rfl)); (case' next184 => skip)
  (first | (refine' grow_skip rfl ?wt185 ?put185 ?next185; (case wt185 => rfl)) | (refine' grow_lit rfl ?wt185 ?run185 ?put185 ?next185; (case wt185 => rfl); (case run185 => (intro w' hS H; clear H; (obtain ⟨g0, g1, -, -⟩ := (KW.out.keep hS).o2); clear hS; go_simp; first | done | exact rfl)))); (case put185 => (simp only [Act.put, List.setIfInBounds_toArray, List.set_cons_zero, List.set_cons_succ]; first | done | exact rfl)); (case' next185 => skip)
  (first | (refine' grow_skip rfl ?wt186 ?put186 ?next186; (case wt186 => rfl)) | (refine' grow_lit rfl ?wt186 ?run186 ?put186 ?next186; (case wt186 => rfl); (case run186 => (intro w' hS H; clear H; (obtain ⟨g0, g1, -, -⟩ := (KW.out.keep hS).o2); clear hS; go_simp; first | done | exact rfl)))); (case put186 => (simp only [Act.put, List.setIfInBounds_toArray, List.set_cons_zero, List.set_cons_succ]; first | done | exact rfl)); (case' next186 => skip)
  (first | (refine' grow_skip rfl ?wt187 ?put187 ?next187; (case wt187 => rfl)) | (refine' grow_lit rfl ?wt187 ?run187 ?put187 ?next187; (case wt187 => rfl); (case run187 => (intro w' hS H; clear H; (obtain ⟨g0, g1, -, -⟩ := (KW.out.keep hS).o2); clear hS; go_simp; first | done | exact rfl)))); (case put187 => (simp only [Act.put, List.setIfInBounds_toArray, List.set_cons_zero, List.set_cons_succ]; first | done | exact rfl)); (case' next187 => skip)
  (first | (refine' grow_skip rfl ?wt188 ?put188 ?next188; (case wt188 => rfl)) | (refine' grow_lit rfl ?wt188 ?run188 ?put188 ?next188; (case wt188 => rfl); (case run188 => (intro w' hS H; clear H; (obtain ⟨g0, g1, -, -⟩ := (KW.out.keep hS).o2); clear hS; go_simp; first | done | exact rfl)))); (case put188 => (simp only [Act.put, List.setIfInBounds_toArray, List.set_cons_zero, List.set_cons_succ]; first | done | exact rfl)); (case' next188 => skip)
  (refine' grow_call (u := .int .i64 0) rfl Tryd.func17 (by kernel_rfl) rfl hGS rfl ?wt266 ?run266 ?put266 ?next266; (case wt266 => rfl); (case run266 => (intro w' hS H; exact vAt (S.out.below hS))); (case put266 => (simp only [Act.put, List.setIfInBounds_toArray, List.set_cons_zero, List.set_cons_succ]; first | done | exact rfl)); (case' next266 => skip))
  (first | (refine' grow_skip rfl ?wt189 ?put189 ?next189; (case wt189 => rfl)) | (refine' grow_lit rfl ?wt189 ?run189 ?put189 ?next189; (case wt189 => rfl); (case run189 => (intro w' hS H; clear H; (obtain ⟨g0, g1, -, -⟩ := (KW.out.keep hS).o2); clear hS; go_simp; first | done | exact rfl)))); (case put189 => (simp only [Act.put, List.setIfInBounds_toArray, List.set_cons_zero, List.set_cons_succ]; first | done | exact rfl)); (case' next189 => skip)
  (first | (refine' grow_skip rfl ?wt190 ?put190 ?next190; (case wt190 => rfl)) | (refine' grow_lit rfl ?wt190 ?run190 ?put190 ?next190; (case wt190 => rfl); (case run190 => (intro w' hS H; clear H; (obtain ⟨g0, g1, -, -⟩ := (KW.out.keep hS).o2); clear hS; go_simp; first | done | exact rfl)))); (case put190 => (simp only [Act.put, List.setIfInBounds_toArray, List.set_cons_zero, List.set_cons_succ]; first | done | exact rfl)); (case' next190 => skip)
  (first | (refine' grow_skip rfl ?wt191 ?put191 ?next191; (case wt191 => rfl)) | (refine' grow_lit rfl ?wt191 ?run191 ?put191 ?next191; (case wt191 => rfl); (case run191 => (intro w' hS H; clear H; (obtain ⟨g0, g1, -, -⟩ := (KW.out.keep hS).o2); clear hS; go_simp; first | done | exact rfl)))); (case put191 => (simp only [Act.put, List.setIfInBounds_toArray, List.set_cons_zero, List.set_cons_succ]; first | done | exact rfl)); (case' next191 => skip)
  (first | (refine' grow_skip rfl ?wt192 ?put192 ?next192; (case wt192 => rfl)) | (refine' grow_lit rfl ?wt192 ?run192 ?put192 ?next192; (case wt192 => rfl); (case run192 => (intro w' hS H; clear H; (obtain ⟨g0, g1, -, -⟩ := (KW.out.keep hS).o2); clear hS; go_simp; first | done | exact rfl)))); (case put192 => (simp only [Act.put, List.setIfInBounds_toArray, List.set_cons_zero, List.set_cons_succ]; first | done | exact rfl)); (case' next192 => skip)
  (refine' grow_callP (p := fun v w => FltAt w v 0 8) (hp := fun v w w' h hb => h.below hb) rfl Tryd.func16 (by kernel_rfl) rfl hGS rfl ?wt267 ?run267 ?put267 ?next267; (case wt267 => rfl); (case run267 => (intro w' hS H; exact (vDone (S.out.below hS) (by decide)).mono (fun e w2 ⟨v, h1, h2, h3⟩ => ⟨v, h1, h2, h3⟩))); (case put267 => (intro v; simp only [Act.put, List.setIfInBounds_toArray, List.set_cons_zero, List.set_cons_succ]; first | done | exact rfl)); (case' next267 => intro v28))
  (first | (refine' grow_skip rfl ?wt193 ?put193 ?next193; (case wt193 => rfl)) | (refine' grow_lit rfl ?wt193 ?run193 ?put193 ?next193; (case wt193 => rfl); (case run193 => (intro w' hS H; clear H; (obtain ⟨g0, g1, -, -⟩ := (KW.out.keep hS).o2); clear hS; go_simp; first | done | exact rfl)))); (case put193 => (simp only [Act.put, List.setIfInBounds_toArray, List.set_cons_zero, List.set_cons_succ]; first | done | exact rfl)); (case' next193 => skip)
  (refine' grow_call (u := .bool true) rfl Tryd.func19 (by kernel_rfl) rfl hGS rfl ?wt268 ?run268 ?put268 ?next268; (case wt268 => rfl); (case run268 => (intro w' hS H; exact vTells (ErrT.old hS G.out) (H 28 (by decide)) (U.out.below hS) (by decide))); (case put268 => (simp only [Act.put, List.setIfInBounds_toArray, List.set_cons_zero, List.set_cons_succ]; first | done | exact rfl)); (case' next268 => skip))
  (first | (refine' grow_skip rfl ?wt194 ?put194 ?next194; (case wt194 => rfl)) | (refine' grow_lit rfl ?wt194 ?run194 ?put194 ?next194; (case wt194 => rfl); (case run194 => (intro w' hS H; clear H; (obtain ⟨g0, g1, -, -⟩ := (KW.out.keep hS).o2); clear hS; go_simp; first | done | exact rfl)))); (case put194 => (simp only [Act.put, List.setIfInBounds_toArray, List.set_cons_zero, List.set_cons_succ]; first | done | exact rfl)); (case' next194 => skip)
  (first | (refine' grow_skip rfl ?wt195 ?put195 ?next195; (case wt195 => rfl)) | (refine' grow_lit rfl ?wt195 ?run195 ?put195 ?next195; (case wt195 => rfl); (case run195 => (intro w' hS H; clear H; (obtain ⟨g0, g1, -, -⟩ := (KW.out.keep hS).o2); clear hS; go_simp; first | done | exact rfl)))); (case put195 => (simp only [Act.put, List.setIfInBounds_toArray, List.set_cons_zero, List.set_cons_succ]; first | done | exact rfl)); (case' next195 => skip)
  (first | (refine' grow_skip rfl ?wt196 ?put196 ?next196; (case wt196 => rfl)) | (refine' grow_lit rfl ?wt196 ?run196 ?put196 ?next196; (case wt196 => rfl); (case run196 => (intro w' hS H; clear H; (obtain ⟨g0, g1, -, -⟩ := (KW.out.keep hS).o2); clear hS; go_simp; first | done | exact rfl)))); (case put196 => (simp only [Act.put, List.setIfInBounds_toArray, List.set_cons_zero, List.set_cons_succ]; first | done | exact rfl)); (case' next196 => skip)
  intro w10 hb _
  have HF := Lib.hid (bOn BB.out hb)
  clear hb hGS
  go_wp2_with fail
  go_ret
  exact ⟨rfl, HF.out⟩

set_option maxHeartbeats 8000000 in
set_option maxRecDepth 100000 in
theorem most_100 (v M i A : Int) (w : World) (hg : ErrT w) (hv0 : 0 ≤ v) (hv1 : v ≤ 18446744073709551615) (hi0 : -9223372036854775808 ≤ i) (hi1 : i ≤ 9223372036854775807) (hV : v ≤ M) (hA : M < A) (hN : ¬ i < 0) (hAi : A = i) :
    Calls Tryd.prog 5 #[.int .u64 v, .int .u64 M, .int .i64 i] w fun e w' => e = .returned (.bool true) ∧ Below w.heap.size w w' := by
  have hf := foldZ_in hi0 hi1
  have hrd := rd_enc hv0 hv1 []
  have hrd2 := rd_enc hf.1 hf.2 []
  rw [List.append_nil] at hrd hrd2
  have ham : amtZ (foldZ i) = A := by rw [amtZ_foldZ]; split <;> omega
  have hrU : uintR (enc v) 0 0 M = (v, (enc v).length, 0) := by unfold uintR; rw [if_pos rfl, List.drop_zero, hrd, if_pos rfl, if_neg (by show ¬ M < v; omega)]; simp
  have hrI : intR (enc (foldZ i)) 0 0 M = (0, 0, 8) := by unfold intR; rw [if_pos rfl, List.drop_zero, hrd2, if_pos rfl, if_pos (by show M < amtZ (foldZ i); omega)]
  clear hrd hrd2 ham hf
  have hX : IntKind.u64.wrap i = A := by simp [IntKind.wrap, IntKind.bits, IntKind.signed]; omega
  clear hAi
  go_enter Tryd.func5, Tryd.ntmps5
  go_wp2_with fail
  have B_0 := Lib.hid (Below.refl w.heap.size w)
  have HG := Lib.hid hg
  clear hg
  refine (known4_any _ HG.out).mono ?_
  rintro ev w1 ⟨rfl, hb⟩
  have B_1 := Lib.hid (bOn B_0.out hb)
  clear hb B_0
  go_wp2_with fail
  refine (ruint_any v _ hv0 hv1).mono ?_
  rintro ev w2 ⟨u1, x1, rfl, h1, -, hb⟩
  have B_2 := Lib.hid (bOn B_1.out hb)
  have U_2 := Lib.hid (show U8s w2 u1 (enc v) from ⟨x1, h1⟩)
  clear hb B_1 h1
  go_wp2_with fail
  refine (new_any u1 (enc v) _ U_2.out (enc_in8 hv0 hv1) (by have := enc_len v; omega)).mono ?_
  rintro ev w3 ⟨b, rfl, hr, hb⟩
  have U_3 := Lib.hid (U_2.out.below hb)
  have B_3 := Lib.hid (bOn B_2.out hb)
  have z1 : w.heap.size ≤ b := by have h1 := hr.lt; have h2 := B_2.out.size; omega
  have R_3 := Lib.hid (hr)
  clear U_3
  clear hb U_2 B_2 hr
  go_wp2_with fail
  refine (rint_any i _ hi0 hi1).mono ?_
  rintro ev w4 ⟨u2, x2, rfl, h1, -, hb⟩
  have R_4 := Lib.hid (R_3.out.below hb)
  have B_4 := Lib.hid (bOn B_3.out hb)
  have U_4 := Lib.hid (show U8s w4 u2 (enc (foldZ i)) from ⟨x2, h1⟩)
  clear hb R_3 B_3 h1
  go_wp2_with fail
  refine (new_any u2 (enc (foldZ i)) _ U_4.out (enc_in8 (foldZ_in hi0 hi1).1 (foldZ_in hi0 hi1).2) (by have := enc_len (foldZ i); omega)).mono ?_
  rintro ev w5 ⟨c, rfl, hr, hb⟩
  have R_5 := Lib.hid (R_4.out.below hb)
  have U_5 := Lib.hid (U_4.out.below hb)
  have B_5 := Lib.hid (bOn B_4.out hb)
  have z2 : b < c := by have h1 := hr.lt; have h2 := R_4.out.lt; omega
  have z3 : b < w4.heap.size := R_4.out.lt.2.1
  have S_5 := Lib.hid (hr)
  clear U_5
  clear hb R_4 U_4 B_4 hr
  go_wp2_with fail
  refine (vU (V := v) (a' := (enc v).length) (e' := 0) R_5.out hrU).mono ?_
  rintro ev w6 ⟨rfl, hr, hb⟩
  have S_6 := Lib.hid (S_5.out.but hb (Or.inl z3))
  have B_6 := Lib.hid (bOnB B_5.out hb z1)
  have R_6 := Lib.hid (hr)
  clear hb R_5 S_5 B_5 hr
  go_wp2_with fail
  refine (vI (V := 0) (a' := 0) (e' := 8) S_6.out hrI).mono ?_
  rintro ev w7 ⟨rfl, hr, hb⟩
  have R_7 := Lib.hid (R_6.out.but hb (Or.inr z2))
  have B_7 := Lib.hid (bOnB B_6.out hb (by omega))
  have S_7 := Lib.hid (hr)
  clear hb S_6 R_6 B_6 hr
  go_wp2_with fail
  refine (vAt6 0 8 _).mono ?_
  rintro ev w8 ⟨wv, rfl, h1, hb⟩
  have R_8 := Lib.hid (R_7.out.below hb)
  have S_8 := Lib.hid (S_7.out.below hb)
  have B_8 := Lib.hid (bOn B_7.out hb)
  have U_8 := Lib.hid (h1)
  clear hb R_7 S_7 B_7 h1
  obtain ⟨q, n, c2, hwv⟩ := U_8.out.2
  subst hwv
  go_wp2_with fail
  obtain ⟨W, hW⟩ := named (w8.alloc (.cells #[.slice q n c2, .int .i64 8] 41))
  rw [← hW]
  have hb : Below w8.heap.size w8 W := by rw [hW]; exact below_new8 _
  have KW : Hid (Blk W w8.heap.size #[.slice q n c2, .int .i64 8] 41) := by rw [hW]; exact Lib.hid (Blk.new _ _ _ _ rfl)
  have R := Lib.hid (R_8.out.below hb)
  have S := Lib.hid (S_8.out.below hb)
  have U := Lib.hid (U_8.out.below hb)
  have G := Lib.hid (HG.out.old (bOn B_8.out hb))
  have BB := Lib.hid (bOn B_8.out hb)
  clear hb hW HG R_8 S_8 U_8 B_8
  have d1 : decide (v ≤ M) = true := by simp; omega
  have d2 : decide (M < v) = false := by simp; omega
  have d3 : decide (A ≤ M) = false := by simp; omega
  have d4 : decide (M < A) = true := by simp; omega
  have hGS : Grows (fun w' => Below W.heap.size W w') := Grows.below W
  refine' wp_growL _ (fun w' => Below W.heap.size W w') [[], [], [0, 1], [2], [3], [3], [3, 4, 5], [3, 6], [7], [7, 8], [7, 9], [3, 7, 10], [3, 11], [12], [13], [13], [13, 14, 15], [13, 16], [17], [17, 18], [17, 19], [20], [20, 21], [20, 22], [17, 20, 23], [17, 24], [25], [25, 26], [25], [25, 27, 28], [25, 29], [17, 25, 30], [13, 17, 31], [13, 32]] (Fact.lit _ :: Fact.lit _ :: Fact.lit _ :: Fact.lit _ :: Fact.lit _ :: Fact.lit _ :: Fact.lit _ :: Fact.lit _ :: Fact.lit _ :: Fact.lit _ :: Fact.lit _ :: Fact.lit _ :: Fact.lit _ :: Fact.lit _ :: Fact.lit _ :: Fact.lit _ :: Fact.lit _ :: Fact.lit _ :: Fact.lit _ :: Fact.lit _ :: Fact.lit _ :: Fact.lit _ :: Fact.lit _ :: Fact.lit _ :: Fact.lit _ :: Fact.lit _ :: Fact.lit _ :: Fact.lit _ :: Fact.lit _ :: Fact.lit _ :: Fact.lit _ :: Fact.lit _ :: Fact.lit _ :: Fact.lit _ :: []) (by kernel_rfl) rfl (by kernel_rfl) (Below.refl _ _).drew ?seqp
  case' seqp => skip
  (first | (refine' grow_skip rfl ?wt197 ?put197 ?next197; (case wt197 => rfl)) | (refine' grow_lit rfl ?wt197 ?run197 ?put197 ?next197; (case wt197 => rfl); (case run197 => (intro w' hS H; clear H; (obtain ⟨g0, g1, -, -⟩ := (KW.out.keep hS).o2); clear hS; go_simp; first | done | exact rfl)))); (case put197 => (simp only [Act.put, List.setIfInBounds_toArray, List.set_cons_zero, List.set_cons_succ]; first | done | exact rfl)); (case' next197 => skip)
  (first | (refine' grow_skip rfl ?wt198 ?put198 ?next198; (case wt198 => rfl)) | (refine' grow_lit rfl ?wt198 ?run198 ?put198 ?next198; (case wt198 => rfl); (case run198 => (intro w' hS H; clear H; (obtain ⟨g0, g1, -, -⟩ := (KW.out.keep hS).o2); clear hS; go_simp; first | done | exact rfl)))); (case put198 => (simp only [Act.put, List.setIfInBounds_toArray, List.set_cons_zero, List.set_cons_succ]; first | done | exact rfl)); (case' next198 => skip)
  (first | (refine' grow_skip rfl ?wt199 ?put199 ?next199; (case wt199 => rfl)) | (refine' grow_lit rfl ?wt199 ?run199 ?put199 ?next199; (case wt199 => rfl); (case run199 => (intro w' hS H; clear H; (obtain ⟨g0, g1, -, -⟩ := (KW.out.keep hS).o2); clear hS; go_simp; first | done | exact rfl)))); (case put199 => (simp only [Act.put, List.setIfInBounds_toArray, List.set_cons_zero, List.set_cons_succ]; first | done | exact rfl)); (case' next199 => skip)
  (first | (refine' grow_skip rfl ?wt200 ?put200 ?next200; (case wt200 => rfl)) | (refine' grow_lit rfl ?wt200 ?run200 ?put200 ?next200; (case wt200 => rfl); (case run200 => (intro w' hS H; clear H; (obtain ⟨g0, g1, -, -⟩ := (KW.out.keep hS).o2); clear hS; go_simp; first | done | exact rfl)))); (case put200 => (simp only [Act.put, List.setIfInBounds_toArray, List.set_cons_zero, List.set_cons_succ]; first | done | exact rfl)); (case' next200 => skip)
  (first | (refine' grow_skip rfl ?wt201 ?put201 ?next201; (case wt201 => rfl)) | (refine' grow_lit rfl ?wt201 ?run201 ?put201 ?next201; (case wt201 => rfl); (case run201 => (intro w' hS H; clear H; (obtain ⟨g0, g1, -, -⟩ := (KW.out.keep hS).o2); clear hS; go_simp; first | done | exact rfl)))); (case put201 => (simp only [Act.put, List.setIfInBounds_toArray, List.set_cons_zero, List.set_cons_succ]; first | done | exact rfl)); (case' next201 => skip)
  (first | (refine' grow_skip rfl ?wt202 ?put202 ?next202; (case wt202 => rfl)) | (refine' grow_lit rfl ?wt202 ?run202 ?put202 ?next202; (case wt202 => rfl); (case run202 => (intro w' hS H; clear H; (obtain ⟨g0, g1, -, -⟩ := (KW.out.keep hS).o2); clear hS; go_simp; first | done | exact rfl)))); (case put202 => (simp only [Act.put, List.setIfInBounds_toArray, List.set_cons_zero, List.set_cons_succ]; first | done | exact rfl)); (case' next202 => skip)
  (first | (refine' grow_skip rfl ?wt203 ?put203 ?next203; (case wt203 => rfl)) | (refine' grow_lit rfl ?wt203 ?run203 ?put203 ?next203; (case wt203 => rfl); (case run203 => (intro w' hS H; clear H; (obtain ⟨g0, g1, -, -⟩ := (KW.out.keep hS).o2); clear hS; go_simp; first | done | exact rfl)))); (case put203 => (simp only [Act.put, List.setIfInBounds_toArray, List.set_cons_zero, List.set_cons_succ]; first | done | exact rfl)); (case' next203 => skip)
  (first | (refine' grow_skip rfl ?wt204 ?put204 ?next204; (case wt204 => rfl)) | (refine' grow_lit rfl ?wt204 ?run204 ?put204 ?next204; (case wt204 => rfl); (case run204 => (intro w' hS H; clear H; (obtain ⟨g0, g1, -, -⟩ := (KW.out.keep hS).o2); clear hS; go_simp; first | done | exact rfl)))); (case put204 => (simp only [Act.put, List.setIfInBounds_toArray, List.set_cons_zero, List.set_cons_succ]; first | done | exact rfl)); (case' next204 => skip)
  (first | (refine' grow_skip rfl ?wt205 ?put205 ?next205; (case wt205 => rfl)) | (refine' grow_lit rfl ?wt205 ?run205 ?put205 ?next205; (case wt205 => rfl); (case run205 => (intro w' hS H; clear H; (obtain ⟨g0, g1, -, -⟩ := (KW.out.keep hS).o2); clear hS; go_simp; first | done | exact rfl)))); (case put205 => (simp only [Act.put, List.setIfInBounds_toArray, List.set_cons_zero, List.set_cons_succ]; first | done | exact rfl)); (case' next205 => skip)
  (refine' grow_call (u := .nilIface) rfl Tryd.func16 (by kernel_rfl) rfl hGS rfl ?wt269 ?run269 ?put269 ?next269; (case wt269 => rfl); (case run269 => (intro w' hS H; exact vDone0 (R.out.below hS) (Nat.lt_irrefl _))); (case put269 => (simp only [Act.put, List.setIfInBounds_toArray, List.set_cons_zero, List.set_cons_succ]; first | done | exact rfl)); (case' next269 => skip))
  (first | (refine' grow_skip rfl ?wt206 ?put206 ?next206; (case wt206 => rfl)) | (refine' grow_lit rfl ?wt206 ?run206 ?put206 ?next206; (case wt206 => rfl); (case run206 => (intro w' hS H; clear H; (obtain ⟨g0, g1, -, -⟩ := (KW.out.keep hS).o2); clear hS; go_simp; first | done | exact rfl)))); (case put206 => (simp only [Act.put, List.setIfInBounds_toArray, List.set_cons_zero, List.set_cons_succ]; first | done | exact rfl)); (case' next206 => skip)
  (first | (refine' grow_skip rfl ?wt207 ?put207 ?next207; (case wt207 => rfl)) | (refine' grow_lit rfl ?wt207 ?run207 ?put207 ?next207; (case wt207 => rfl); (case run207 => (intro w' hS H; clear H; (obtain ⟨g0, g1, -, -⟩ := (KW.out.keep hS).o2); clear hS; go_simp; first | done | exact rfl)))); (case put207 => (simp only [Act.put, List.setIfInBounds_toArray, List.set_cons_zero, List.set_cons_succ]; first | done | exact rfl)); (case' next207 => skip)
  (first | (refine' grow_skip rfl ?wt208 ?put208 ?next208; (case wt208 => rfl)) | (refine' grow_lit rfl ?wt208 ?run208 ?put208 ?next208; (case wt208 => rfl); (case run208 => (intro w' hS H; clear H; (obtain ⟨g0, g1, -, -⟩ := (KW.out.keep hS).o2); clear hS; go_simp; first | done | exact rfl)))); (case put208 => (simp only [Act.put, List.setIfInBounds_toArray, List.set_cons_zero, List.set_cons_succ]; first | done | exact rfl)); (case' next208 => skip)
  (first | (refine' grow_skip rfl ?wt209 ?put209 ?next209; (case wt209 => rfl)) | (refine' grow_lit rfl ?wt209 ?run209 ?put209 ?next209; (case wt209 => rfl); (case run209 => (intro w' hS H; clear H; (obtain ⟨g0, g1, -, -⟩ := (KW.out.keep hS).o2); clear hS; go_simp; first | done | exact rfl)))); (case put209 => (simp only [Act.put, List.setIfInBounds_toArray, List.set_cons_zero, List.set_cons_succ]; first | done | exact rfl)); (case' next209 => skip)
  (first | (refine' grow_skip rfl ?wt210 ?put210 ?next210; (case wt210 => rfl)) | (refine' grow_lit rfl ?wt210 ?run210 ?put210 ?next210; (case wt210 => rfl); (case run210 => (intro w' hS H; clear H; (obtain ⟨g0, g1, -, -⟩ := (KW.out.keep hS).o2); clear hS; go_simp; first | done | exact rfl)))); (case put210 => (simp only [Act.put, List.setIfInBounds_toArray, List.set_cons_zero, List.set_cons_succ]; first | done | exact rfl)); (case' next210 => skip)
  (first | (refine' grow_skip rfl ?wt211 ?put211 ?next211; (case wt211 => rfl)) | (refine' grow_lit rfl ?wt211 ?run211 ?put211 ?next211; (case wt211 => rfl); (case run211 => (intro w' hS H; clear H; (obtain ⟨g0, g1, -, -⟩ := (KW.out.keep hS).o2); clear hS; go_simp; first | done | exact rfl)))); (case put211 => (simp only [Act.put, List.setIfInBounds_toArray, List.set_cons_zero, List.set_cons_succ]; first | done | exact rfl)); (case' next211 => skip)
  (first | (refine' grow_skip rfl ?wt212 ?put212 ?next212; (case wt212 => rfl)) | (refine' grow_lit rfl ?wt212 ?run212 ?put212 ?next212; (case wt212 => rfl); (case run212 => (intro w' hS H; clear H; (obtain ⟨g0, g1, -, -⟩ := (KW.out.keep hS).o2); clear hS; go_simp; first | done | exact rfl)))); (case put212 => (simp only [Act.put, List.setIfInBounds_toArray, List.set_cons_zero, List.set_cons_succ]; first | done | exact rfl)); (case' next212 => skip)
  (first | (refine' grow_skip rfl ?wt213 ?put213 ?next213; (case wt213 => rfl)) | (refine' grow_lit rfl ?wt213 ?run213 ?put213 ?next213; (case wt213 => rfl); (case run213 => (intro w' hS H; clear H; (obtain ⟨g0, g1, -, -⟩ := (KW.out.keep hS).o2); clear hS; go_simp; first | done | exact rfl)))); (case put213 => (simp only [Act.put, List.setIfInBounds_toArray, List.set_cons_zero, List.set_cons_succ]; first | done | exact rfl)); (case' next213 => skip)
  (first | (refine' grow_skip rfl ?wt214 ?put214 ?next214; (case wt214 => rfl)) | (refine' grow_lit rfl ?wt214 ?run214 ?put214 ?next214; (case wt214 => rfl); (case run214 => (intro w' hS H; clear H; (obtain ⟨g0, g1, -, -⟩ := (KW.out.keep hS).o2); clear hS; go_simp; first | done | exact rfl)))); (case put214 => (simp only [Act.put, List.setIfInBounds_toArray, List.set_cons_zero, List.set_cons_succ]; first | done | exact rfl)); (case' next214 => skip)
  (first | (refine' grow_skip rfl ?wt215 ?put215 ?next215; (case wt215 => rfl)) | (refine' grow_lit rfl ?wt215 ?run215 ?put215 ?next215; (case wt215 => rfl); (case run215 => (intro w' hS H; clear H; (obtain ⟨g0, g1, -, -⟩ := (KW.out.keep hS).o2); clear hS; go_simp; first | done | exact rfl)))); (case put215 => (simp only [Act.put, List.setIfInBounds_toArray, List.set_cons_zero, List.set_cons_succ]; first | done | exact rfl)); (case' next215 => skip)
  (first | (refine' grow_skip rfl ?wt216 ?put216 ?next216; (case wt216 => rfl)) | (refine' grow_lit rfl ?wt216 ?run216 ?put216 ?next216; (case wt216 => rfl); (case run216 => (intro w' hS H; clear H; (obtain ⟨g0, g1, -, -⟩ := (KW.out.keep hS).o2); clear hS; go_simp; first | done | exact rfl)))); (case put216 => (simp only [Act.put, List.setIfInBounds_toArray, List.set_cons_zero, List.set_cons_succ]; first | done | exact rfl)); (case' next216 => skip)
  (first | (refine' grow_skip rfl ?wt217 ?put217 ?next217; (case wt217 => rfl)) | (refine' grow_lit rfl ?wt217 ?run217 ?put217 ?next217; (case wt217 => rfl); (case run217 => (intro w' hS H; clear H; (obtain ⟨g0, g1, -, -⟩ := (KW.out.keep hS).o2); clear hS; go_simp; first | done | exact rfl)))); (case put217 => (simp only [Act.put, List.setIfInBounds_toArray, List.set_cons_zero, List.set_cons_succ]; first | done | exact rfl)); (case' next217 => skip)
  (first | (refine' grow_skip rfl ?wt218 ?put218 ?next218; (case wt218 => rfl)) | (refine' grow_lit rfl ?wt218 ?run218 ?put218 ?next218; (case wt218 => rfl); (case run218 => (intro w' hS H; clear H; (obtain ⟨g0, g1, -, -⟩ := (KW.out.keep hS).o2); clear hS; go_simp; first | done | exact rfl)))); (case put218 => (simp only [Act.put, List.setIfInBounds_toArray, List.set_cons_zero, List.set_cons_succ]; first | done | exact rfl)); (case' next218 => skip)
  (first | (refine' grow_skip rfl ?wt219 ?put219 ?next219; (case wt219 => rfl)) | (refine' grow_lit rfl ?wt219 ?run219 ?put219 ?next219; (case wt219 => rfl); (case run219 => (intro w' hS H; clear H; (obtain ⟨g0, g1, -, -⟩ := (KW.out.keep hS).o2); clear hS; go_simp; first | done | exact rfl)))); (case put219 => (simp only [Act.put, List.setIfInBounds_toArray, List.set_cons_zero, List.set_cons_succ]; first | done | exact rfl)); (case' next219 => skip)
  (first | (refine' grow_skip rfl ?wt220 ?put220 ?next220; (case wt220 => rfl)) | (refine' grow_lit rfl ?wt220 ?run220 ?put220 ?next220; (case wt220 => rfl); (case run220 => (intro w' hS H; clear H; (obtain ⟨g0, g1, -, -⟩ := (KW.out.keep hS).o2); clear hS; go_simp; first | done | exact rfl)))); (case put220 => (simp only [Act.put, List.setIfInBounds_toArray, List.set_cons_zero, List.set_cons_succ]; first | done | exact rfl)); (case' next220 => skip)
  (first | (refine' grow_skip rfl ?wt221 ?put221 ?next221; (case wt221 => rfl)) | (refine' grow_lit rfl ?wt221 ?run221 ?put221 ?next221; (case wt221 => rfl); (case run221 => (intro w' hS H; clear H; (obtain ⟨g0, g1, -, -⟩ := (KW.out.keep hS).o2); clear hS; go_simp; first | done | exact rfl)))); (case put221 => (simp only [Act.put, List.setIfInBounds_toArray, List.set_cons_zero, List.set_cons_succ]; first | done | exact rfl)); (case' next221 => skip)
  (first | (refine' grow_skip rfl ?wt222 ?put222 ?next222; (case wt222 => rfl)) | (refine' grow_lit rfl ?wt222 ?run222 ?put222 ?next222; (case wt222 => rfl); (case run222 => (intro w' hS H; clear H; (obtain ⟨g0, g1, -, -⟩ := (KW.out.keep hS).o2); clear hS; go_simp; first | done | exact rfl)))); (case put222 => (simp only [Act.put, List.setIfInBounds_toArray, List.set_cons_zero, List.set_cons_succ]; first | done | exact rfl)); (case' next222 => skip)
  (first | (refine' grow_skip rfl ?wt223 ?put223 ?next223; (case wt223 => rfl)) | (refine' grow_lit rfl ?wt223 ?run223 ?put223 ?next223; (case wt223 => rfl); (case run223 => (intro w' hS H; clear H; (obtain ⟨g0, g1, -, -⟩ := (KW.out.keep hS).o2); clear hS; go_simp; first | done | exact rfl)))); (case put223 => (simp only [Act.put, List.setIfInBounds_toArray, List.set_cons_zero, List.set_cons_succ]; first | done | exact rfl)); (case' next223 => skip)
  (first | (refine' grow_skip rfl ?wt224 ?put224 ?next224; (case wt224 => rfl)) | (refine' grow_lit rfl ?wt224 ?run224 ?put224 ?next224; (case wt224 => rfl); (case run224 => (intro w' hS H; clear H; (obtain ⟨g0, g1, -, -⟩ := (KW.out.keep hS).o2); clear hS; go_simp; first | done | exact rfl)))); (case put224 => (simp only [Act.put, List.setIfInBounds_toArray, List.set_cons_zero, List.set_cons_succ]; first | done | exact rfl)); (case' next224 => skip)
  (first | (refine' grow_skip rfl ?wt225 ?put225 ?next225; (case wt225 => rfl)) | (refine' grow_lit rfl ?wt225 ?run225 ?put225 ?next225; (case wt225 => rfl); (case run225 => (intro w' hS H; clear H; (obtain ⟨g0, g1, -, -⟩ := (KW.out.keep hS).o2); clear hS; go_simp; first | done | exact rfl)))); (case put225 => (simp only [Act.put, List.setIfInBounds_toArray, List.set_cons_zero, List.set_cons_succ]; first | done | exact rfl)); (case' next225 => skip)
  (first | (refine' grow_skip rfl ?wt226 ?put226 ?next226; (case wt226 => rfl)) | (refine' grow_lit rfl ?wt226 ?run226 ?put226 ?next226; (case wt226 => rfl); (case run226 => (intro w' hS H; clear H; (obtain ⟨g0, g1, -, -⟩ := (KW.out.keep hS).o2); clear hS; go_simp; first | done | exact rfl)))); (case put226 => (simp only [Act.put, List.setIfInBounds_toArray, List.set_cons_zero, List.set_cons_succ]; first | done | exact rfl)); (case' next226 => skip)
  (first | (refine' grow_skip rfl ?wt227 ?put227 ?next227; (case wt227 => rfl)) | (refine' grow_lit rfl ?wt227 ?run227 ?put227 ?next227; (case wt227 => rfl); (case run227 => (intro w' hS H; clear H; (obtain ⟨g0, g1, -, -⟩ := (KW.out.keep hS).o2); clear hS; go_simp; first | done | exact rfl)))); (case put227 => (simp only [Act.put, List.setIfInBounds_toArray, List.set_cons_zero, List.set_cons_succ]; first | done | exact rfl)); (case' next227 => skip)
  (first | (refine' grow_skip rfl ?wt228 ?put228 ?next228; (case wt228 => rfl)) | (refine' grow_lit rfl ?wt228 ?run228 ?put228 ?next228; (case wt228 => rfl); (case run228 => (intro w' hS H; clear H; (obtain ⟨g0, g1, -, -⟩ := (KW.out.keep hS).o2); clear hS; go_simp; first | done | exact rfl)))); (case put228 => (simp only [Act.put, List.setIfInBounds_toArray, List.set_cons_zero, List.set_cons_succ]; first | done | exact rfl)); (case' next228 => skip)
  (first | (refine' grow_skip rfl ?wt229 ?put229 ?next229; (case wt229 => rfl)) | (refine' grow_lit rfl ?wt229 ?run229 ?put229 ?next229; (case wt229 => rfl); (case run229 => (intro w' hS H; clear H; (obtain ⟨g0, g1, -, -⟩ := (KW.out.keep hS).o2); clear hS; go_simp; first | done | exact rfl)))); (case put229 => (simp only [Act.put, List.setIfInBounds_toArray, List.set_cons_zero, List.set_cons_succ]; first | done | exact rfl)); (case' next229 => skip)
  intro w9 hb _
  have B1 := Lib.hid (bOn BB.out hb)
  have KW1 := Lib.hid (KW.out.keep hb)
  have S1 := Lib.hid (S.out.below hb)
  have U1 := Lib.hid (U.out.below hb)
  have G1 := Lib.hid (ErrT.old hb G.out)
  clear hb hGS R S U G BB KW
  have S := S1
  have U := U1
  have G := G1
  have KW := KW1
  have BB := B1
  clear S1 U1 G1 B1 KW1
  go_wp2_with fail
  have hGS : Grows (fun w' => Below w9.heap.size w9 w') := Grows.below w9
  refine' wp_growL _ (fun w' => Below w9.heap.size w9 w') [[], [], [0, 1], [2], [3], [3], [3, 4, 5], [3, 6], [7], [8], [8, 9], [8, 10], [8, 11], [12], [13], [13], [13, 14, 15], [13, 16], [17], [17, 18], [13, 17, 19], [13, 20], [21], [21, 22], [21, 23], [13, 21, 24], [13, 25], [26], [26, 27], [26], [26, 28, 29], [13, 26, 30], [13, 31], [32]] (Fact.lit _ :: Fact.lit _ :: Fact.lit _ :: Fact.lit _ :: Fact.lit _ :: Fact.lit _ :: Fact.lit _ :: Fact.lit _ :: Fact.lit _ :: Fact.lit _ :: Fact.lit _ :: Fact.lit _ :: Fact.lit _ :: Fact.lit _ :: Fact.lit _ :: Fact.lit _ :: Fact.lit _ :: Fact.lit _ :: Fact.lit _ :: Fact.lit _ :: Fact.lit _ :: Fact.lit _ :: Fact.lit _ :: Fact.lit _ :: Fact.lit _ :: Fact.lit _ :: Fact.lit _ :: Fact.lit _ :: Fact.prop _ _ :: Fact.lit _ :: Fact.lit _ :: Fact.lit _ :: Fact.lit _ :: Fact.lit _ :: []) (by kernel_rfl) rfl (by kernel_rfl) (Below.refl _ _).drew ?seqq
  case' seqq => skip
  (first | (refine' grow_skip rfl ?wt230 ?put230 ?next230; (case wt230 => rfl)) | (refine' grow_lit rfl ?wt230 ?run230 ?put230 ?next230; (case wt230 => rfl); (case run230 => (intro w' hS H; clear H; (obtain ⟨g0, g1, -, -⟩ := (KW.out.keep hS).o2); clear hS; go_simp; first | done | exact rfl)))); (case put230 => (simp only [Act.put, List.setIfInBounds_toArray, List.set_cons_zero, List.set_cons_succ]; first | done | exact rfl)); (case' next230 => skip)
  (first | (refine' grow_skip rfl ?wt231 ?put231 ?next231; (case wt231 => rfl)) | (refine' grow_lit rfl ?wt231 ?run231 ?put231 ?next231; (case wt231 => rfl); (case run231 => (intro w' hS H; clear H; (obtain ⟨g0, g1, -, -⟩ := (KW.out.keep hS).o2); clear hS; go_simp; first | done | exact rfl)))); (case put231 => (simp only [Act.put, List.setIfInBounds_toArray, List.set_cons_zero, List.set_cons_succ]; first | done | exact rfl)); (case' next231 => skip)
  (first | (refine' grow_skip rfl ?wt232 ?put232 ?next232; (case wt232 => rfl)) | (refine' grow_lit rfl ?wt232 ?run232 ?put232 ?next232; (case wt232 => rfl); (case run232 => (intro w' hS H; clear H; (obtain ⟨g0, g1, -, -⟩ := (KW.out.keep hS).o2); clear hS; go_simp; first | done | exact rfl)))); (case put232 => (simp only [Act.put, List.setIfInBounds_toArray, List.set_cons_zero, List.set_cons_succ]; first | done | exact rfl)); (case' next232 => skip)
  (first | (refine' grow_skip rfl ?wt233 ?put233 ?next233; (case wt233 => rfl)) | (refine' grow_lit rfl ?wt233 ?run233 ?put233 ?next233; (case wt233 => rfl); (case run233 => (intro w' hS H; clear H; (obtain ⟨g0, g1, -, -⟩ := (KW.out.keep hS).o2); clear hS; go_simp; first | done | exact rfl)))); (case put233 => (simp only [Act.put, List.setIfInBounds_toArray, List.set_cons_zero, List.set_cons_succ]; first | done | exact rfl)); (case' next233 => skip)
  (first | (refine' grow_skip rfl ?wt234 ?put234 ?next234; (case wt234 => rfl)) | (refine' grow_lit rfl ?wt234 ?run234 ?put234 ?next234; (case wt234 => rfl); (case run234 => (intro w' hS H; clear H; (obtain ⟨g0, g1, -, -⟩ := (KW.out.keep hS).o2); clear hS; go_simp; first | done | exact rfl)))); (case put234 => (simp only [Act.put, List.setIfInBounds_toArray, List.set_cons_zero, List.set_cons_succ]; first | done | exact rfl)); (case' next234 => skip)
  (first | (refine' grow_skip rfl ?wt235 ?put235 ?next235; (case wt235 => rfl)) | (refine' grow_lit rfl ?wt235 ?run235 ?put235 ?next235; (case wt235 => rfl); (case run235 => (intro w' hS H; clear H; (obtain ⟨g0, g1, -, -⟩ := (KW.out.keep hS).o2); clear hS; go_simp; first | done | exact rfl)))); (case put235 => (simp only [Act.put, List.setIfInBounds_toArray, List.set_cons_zero, List.set_cons_succ]; first | done | exact rfl)); (case' next235 => skip)
  (first | (refine' grow_skip rfl ?wt236 ?put236 ?next236; (case wt236 => rfl)) | (refine' grow_lit rfl ?wt236 ?run236 ?put236 ?next236; (case wt236 => rfl); (case run236 => (intro w' hS H; clear H; (obtain ⟨g0, g1, -, -⟩ := (KW.out.keep hS).o2); clear hS; go_simp; first | done | exact rfl)))); (case put236 => (simp only [Act.put, List.setIfInBounds_toArray, List.set_cons_zero, List.set_cons_succ]; first | done | exact rfl)); (case' next236 => skip)
  (first | (refine' grow_skip rfl ?wt237 ?put237 ?next237; (case wt237 => rfl)) | (refine' grow_lit rfl ?wt237 ?run237 ?put237 ?next237; (case wt237 => rfl); (case run237 => (intro w' hS H; clear H; (obtain ⟨g0, g1, -, -⟩ := (KW.out.keep hS).o2); clear hS; go_simp; first | done | exact rfl)))); (case put237 => (simp only [Act.put, List.setIfInBounds_toArray, List.set_cons_zero, List.set_cons_succ]; first | done | exact rfl)); (case' next237 => skip)
  (first | (refine' grow_skip rfl ?wt238 ?put238 ?next238; (case wt238 => rfl)) | (refine' grow_lit rfl ?wt238 ?run238 ?put238 ?next238; (case wt238 => rfl); (case run238 => (intro w' hS H; clear H; (obtain ⟨g0, g1, -, -⟩ := (KW.out.keep hS).o2); clear hS; go_simp; first | done | exact rfl)))); (case put238 => (simp only [Act.put, List.setIfInBounds_toArray, List.set_cons_zero, List.set_cons_succ]; first | done | exact rfl)); (case' next238 => skip)
  (first | (refine' grow_skip rfl ?wt239 ?put239 ?next239; (case wt239 => rfl)) | (refine' grow_lit rfl ?wt239 ?run239 ?put239 ?next239; (case wt239 => rfl); (case run239 => (intro w' hS H; clear H; (obtain ⟨g0, g1, -, -⟩ := (KW.out.keep hS).o2); clear hS; go_simp; first | done | exact rfl)))); (case put239 => (simp only [Act.put, List.setIfInBounds_toArray, List.set_cons_zero, List.set_cons_succ]; first | done | exact rfl)); (case' next239 => skip)
  (first | (refine' grow_skip rfl ?wt240 ?put240 ?next240; (case wt240 => rfl)) | (refine' grow_lit rfl ?wt240 ?run240 ?put240 ?next240; (case wt240 => rfl); (case run240 => (intro w' hS H; clear H; (obtain ⟨g0, g1, -, -⟩ := (KW.out.keep hS).o2); clear hS; go_simp; first | done | exact rfl)))); (case put240 => (simp only [Act.put, List.setIfInBounds_toArray, List.set_cons_zero, List.set_cons_succ]; first | done | exact rfl)); (case' next240 => skip)
  (first | (refine' grow_skip rfl ?wt241 ?put241 ?next241; (case wt241 => rfl)) | (refine' grow_lit rfl ?wt241 ?run241 ?put241 ?next241; (case wt241 => rfl); (case run241 => (intro w' hS H; clear H; (obtain ⟨g0, g1, -, -⟩ := (KW.out.keep hS).o2); clear hS; go_simp; first | done | exact rfl)))); (case put241 => (simp only [Act.put, List.setIfInBounds_toArray, List.set_cons_zero, List.set_cons_succ]; first | done | exact rfl)); (case' next241 => skip)
  (first | (refine' grow_skip rfl ?wt242 ?put242 ?next242; (case wt242 => rfl)) | (refine' grow_lit rfl ?wt242 ?run242 ?put242 ?next242; (case wt242 => rfl); (case run242 => (intro w' hS H; clear H; (obtain ⟨g0, g1, -, -⟩ := (KW.out.keep hS).o2); clear hS; go_simp; first | done | exact rfl)))); (case put242 => (simp only [Act.put, List.setIfInBounds_toArray, List.set_cons_zero, List.set_cons_succ]; first | done | exact rfl)); (case' next242 => skip)
  (first | (refine' grow_skip rfl ?wt243 ?put243 ?next243; (case wt243 => rfl)) | (refine' grow_lit rfl ?wt243 ?run243 ?put243 ?next243; (case wt243 => rfl); (case run243 => (intro w' hS H; clear H; (obtain ⟨g0, g1, -, -⟩ := (KW.out.keep hS).o2); clear hS; go_simp; first | done | exact rfl)))); (case put243 => (simp only [Act.put, List.setIfInBounds_toArray, List.set_cons_zero, List.set_cons_succ]; first | done | exact rfl)); (case' next243 => skip)
  (first | (refine' grow_skip rfl ?wt244 ?put244 ?next244; (case wt244 => rfl)) | (refine' grow_lit rfl ?wt244 ?run244 ?put244 ?next244; (case wt244 => rfl); (case run244 => (intro w' hS H; clear H; (obtain ⟨g0, g1, -, -⟩ := (KW.out.keep hS).o2); clear hS; go_simp; first | done | exact rfl)))); (case put244 => (simp only [Act.put, List.setIfInBounds_toArray, List.set_cons_zero, List.set_cons_succ]; first | done | exact rfl)); (case' next244 => skip)
  (first | (refine' grow_skip rfl ?wt245 ?put245 ?next245; (case wt245 => rfl)) | (refine' grow_lit rfl ?wt245 ?run245 ?put245 ?next245; (case wt245 => rfl); (case run245 => (intro w' hS H; clear H; (obtain ⟨g0, g1, -, -⟩ := (KW.out.keep hS).o2); clear hS; go_simp; first | done | exact rfl)))); (case put245 => (simp only [Act.put, List.setIfInBounds_toArray, List.set_cons_zero, List.set_cons_succ]; first | done | exact rfl)); (case' next245 => skip)
  (first | (refine' grow_skip rfl ?wt246 ?put246 ?next246; (case wt246 => rfl)) | (refine' grow_lit rfl ?wt246 ?run246 ?put246 ?next246; (case wt246 => rfl); (case run246 => (intro w' hS H; clear H; (obtain ⟨g0, g1, -, -⟩ := (KW.out.keep hS).o2); clear hS; go_simp; first | done | exact rfl)))); (case put246 => (simp only [Act.put, List.setIfInBounds_toArray, List.set_cons_zero, List.set_cons_succ]; first | done | exact rfl)); (case' next246 => skip)
  (first | (refine' grow_skip rfl ?wt247 ?put247 ?next247; (case wt247 => rfl)) | (refine' grow_lit rfl ?wt247 ?run247 ?put247 ?next247; (case wt247 => rfl); (case run247 => (intro w' hS H; clear H; (obtain ⟨g0, g1, -, -⟩ := (KW.out.keep hS).o2); clear hS; go_simp; first | done | exact rfl)))); (case put247 => (simp only [Act.put, List.setIfInBounds_toArray, List.set_cons_zero, List.set_cons_succ]; first | done | exact rfl)); (case' next247 => skip)
  (first | (refine' grow_skip rfl ?wt248 ?put248 ?next248; (case wt248 => rfl)) | (refine' grow_lit rfl ?wt248 ?run248 ?put248 ?next248; (case wt248 => rfl); (case run248 => (intro w' hS H; clear H; (obtain ⟨g0, g1, -, -⟩ := (KW.out.keep hS).o2); clear hS; go_simp; first | done | exact rfl)))); (case put248 => (simp only [Act.put, List.setIfInBounds_toArray, List.set_cons_zero, List.set_cons_succ]; first | done | exact rfl)); (case' next248 => skip)
  (first | (refine' grow_skip rfl ?wt249 ?put249 ?next249; (case wt249 => rfl)) | (refine' grow_lit rfl ?wt249 ?run249 ?put249 ?next249; (case wt249 => rfl); (case run249 => (intro w' hS H; clear H; (obtain ⟨g0, g1, -, -⟩ := (KW.out.keep hS).o2); clear hS; go_simp; first | done | exact rfl)))); (case put249 => (simp only [Act.put, List.setIfInBounds_toArray, List.set_cons_zero, List.set_cons_succ]; first | done | exact rfl)); (case' next249 => skip)
  (first | (refine' grow_skip rfl ?wt250 ?put250 ?next250; (case wt250 => rfl)) | (refine' grow_lit rfl ?wt250 ?run250 ?put250 ?next250; (case wt250 => rfl); (case run250 => (intro w' hS H; clear H; (obtain ⟨g0, g1, -, -⟩ := (KW.out.keep hS).o2); clear hS; go_simp; first | done | exact rfl)))); (case put250 => (simp only [Act.put, List.setIfInBounds_toArray, List.set_cons_zero, List.set_cons_succ]; first | done | exact rfl)); (case' next250 => skip)
  (first | (refine' grow_skip rfl ?wt251 ?put251 ?next251; (case wt251 => rfl)) | (refine' grow_lit rfl ?wt251 ?run251 ?put251 ?next251; (case wt251 => rfl); (case run251 => (intro w' hS H; clear H; (obtain ⟨g0, g1, -, -⟩ := (KW.out.keep hS).o2); clear hS; go_simp; first | done | exact rfl)))); (case put251 => (simp only [Act.put, List.setIfInBounds_toArray, List.set_cons_zero, List.set_cons_succ]; first | done | exact rfl)); (case' next251 => skip)
  (first | (refine' grow_skip rfl ?wt252 ?put252 ?next252; (case wt252 => rfl)) | (refine' grow_lit rfl ?wt252 ?run252 ?put252 ?next252; (case wt252 => rfl); (case run252 => (intro w' hS H; clear H; (obtain ⟨g0, g1, -, -⟩ := (KW.out.keep hS).o2); clear hS; go_simp; first | done | exact rfl)))); (case put252 => (simp only [Act.put, List.setIfInBounds_toArray, List.set_cons_zero, List.set_cons_succ]; first | done | exact rfl)); (case' next252 => skip)
  (refine' grow_call (u := .int .i64 0) rfl Tryd.func17 (by kernel_rfl) rfl hGS rfl ?wt270 ?run270 ?put270 ?next270; (case wt270 => rfl); (case run270 => (intro w' hS H; exact vAt (S.out.below hS))); (case put270 => (simp only [Act.put, List.setIfInBounds_toArray, List.set_cons_zero, List.set_cons_succ]; first | done | exact rfl)); (case' next270 => skip))
  (first | (refine' grow_skip rfl ?wt253 ?put253 ?next253; (case wt253 => rfl)) | (refine' grow_lit rfl ?wt253 ?run253 ?put253 ?next253; (case wt253 => rfl); (case run253 => (intro w' hS H; clear H; (obtain ⟨g0, g1, -, -⟩ := (KW.out.keep hS).o2); clear hS; go_simp; first | done | exact rfl)))); (case put253 => (simp only [Act.put, List.setIfInBounds_toArray, List.set_cons_zero, List.set_cons_succ]; first | done | exact rfl)); (case' next253 => skip)
  (first | (refine' grow_skip rfl ?wt254 ?put254 ?next254; (case wt254 => rfl)) | (refine' grow_lit rfl ?wt254 ?run254 ?put254 ?next254; (case wt254 => rfl); (case run254 => (intro w' hS H; clear H; (obtain ⟨g0, g1, -, -⟩ := (KW.out.keep hS).o2); clear hS; go_simp; first | done | exact rfl)))); (case put254 => (simp only [Act.put, List.setIfInBounds_toArray, List.set_cons_zero, List.set_cons_succ]; first | done | exact rfl)); (case' next254 => skip)
  (first | (refine' grow_skip rfl ?wt255 ?put255 ?next255; (case wt255 => rfl)) | (refine' grow_lit rfl ?wt255 ?run255 ?put255 ?next255; (case wt255 => rfl); (case run255 => (intro w' hS H; clear H; (obtain ⟨g0, g1, -, -⟩ := (KW.out.keep hS).o2); clear hS; go_simp; first | done | exact rfl)))); (case put255 => (simp only [Act.put, List.setIfInBounds_toArray, List.set_cons_zero, List.set_cons_succ]; first | done | exact rfl)); (case' next255 => skip)
  (first | (refine' grow_skip rfl ?wt256 ?put256 ?next256; (case wt256 => rfl)) | (refine' grow_lit rfl ?wt256 ?run256 ?put256 ?next256; (case wt256 => rfl); (case run256 => (intro w' hS H; clear H; (obtain ⟨g0, g1, -, -⟩ := (KW.out.keep hS).o2); clear hS; go_simp; first | done | exact rfl)))); (case put256 => (simp only [Act.put, List.setIfInBounds_toArray, List.set_cons_zero, List.set_cons_succ]; first | done | exact rfl)); (case' next256 => skip)
  (refine' grow_callP (p := fun v w => FltAt w v 0 8) (hp := fun v w w' h hb => h.below hb) rfl Tryd.func16 (by kernel_rfl) rfl hGS rfl ?wt271 ?run271 ?put271 ?next271; (case wt271 => rfl); (case run271 => (intro w' hS H; exact (vDone (S.out.below hS) (by decide)).mono (fun e w2 ⟨v, h1, h2, h3⟩ => ⟨v, h1, h2, h3⟩))); (case put271 => (intro v; simp only [Act.put, List.setIfInBounds_toArray, List.set_cons_zero, List.set_cons_succ]; first | done | exact rfl)); (case' next271 => intro v28))
  (first | (refine' grow_skip rfl ?wt257 ?put257 ?next257; (case wt257 => rfl)) | (refine' grow_lit rfl ?wt257 ?run257 ?put257 ?next257; (case wt257 => rfl); (case run257 => (intro w' hS H; clear H; (obtain ⟨g0, g1, -, -⟩ := (KW.out.keep hS).o2); clear hS; go_simp; first | done | exact rfl)))); (case put257 => (simp only [Act.put, List.setIfInBounds_toArray, List.set_cons_zero, List.set_cons_succ]; first | done | exact rfl)); (case' next257 => skip)
  (refine' grow_call (u := .bool true) rfl Tryd.func19 (by kernel_rfl) rfl hGS rfl ?wt272 ?run272 ?put272 ?next272; (case wt272 => rfl); (case run272 => (intro w' hS H; exact vTells (ErrT.old hS G.out) (H 28 (by decide)) (U.out.below hS) (by decide))); (case put272 => (simp only [Act.put, List.setIfInBounds_toArray, List.set_cons_zero, List.set_cons_succ]; first | done | exact rfl)); (case' next272 => skip))
  (first | (refine' grow_skip rfl ?wt258 ?put258 ?next258; (case wt258 => rfl)) | (refine' grow_lit rfl ?wt258 ?run258 ?put258 ?next258; (case wt258 => rfl); (case run258 => (intro w' hS H; clear H; (obtain ⟨g0, g1, -, -⟩ := (KW.out.keep hS).o2); clear hS; go_simp; first | done | exact rfl)))); (case put258 => (simp only [Act.put, List.setIfInBounds_toArray, List.set_cons_zero, List.set_cons_succ]; first | done | exact rfl)); (case' next258 => skip)
  (first | (refine' grow_skip rfl ?wt259 ?put259 ?next259; (case wt259 => rfl)) | (refine' grow_lit rfl ?wt259 ?run259 ?put259 ?next259; (case wt259 => rfl); (case run259 => (intro w' hS H; clear H; (obtain ⟨g0, g1, -, -⟩ := (KW.out.keep hS).o2); clear hS; go_simp; first | done | exact rfl)))); (case put259 => (simp only [Act.put, List.setIfInBounds_toArray, List.set_cons_zero, List.set_cons_succ]; first | done | exact rfl)); (case' next259 => skip)
  (first | (refine' grow_skip rfl ?wt260 ?put260 ?next260; (case wt260 => rfl)) | (refine' grow_lit rfl ?wt260 ?run260 ?put260 ?next260; (case wt260 => rfl); (case run260 => (intro w' hS H; clear H; (obtain ⟨g0, g1, -, -⟩ := (KW.out.keep hS).o2); clear hS; go_simp; first | done | exact rfl)))); (case put260 => (simp only [Act.put, List.setIfInBounds_toArray, List.set_cons_zero, List.set_cons_succ]; first | done | exact rfl)); (case' next260 => skip)
  intro w10 hb _
  have HF := Lib.hid (bOn BB.out hb)
  clear hb hGS
  go_wp2_with fail
  go_ret
  exact ⟨rfl, HF.out⟩

end Go.Proofs.YtjicekblfpgkdaaDoor
