/-
  PROVED: a number has one row of bytes: what is read of any row is told again as just these bytes. For every row of bytes. Conditions: the listed library variable holds what the program's own text lays (the card ties it).
-/
import Derived.Test.YtjicekblfpgkdaaDoorKnown4
import Derived.Test.YtjicekblfpgkdaaDoorLaid4
import Derived.Test.YtjicekblfpgkdaaDoorCards
import Derived.Test.YtjicekblfpgkdaaDoorTie
import Derived.SevenTiedAt
import Derived.Test.YtjicekblfpgkdaaDoorW4B
namespace Go.Proofs.YtjicekblfpgkdaaDoor
open Go.ChangeShapes Go.WideShapes Go.ChangeAt Go.RowKit

set_option maxHeartbeats 8000000 in
set_option maxRecDepth 100000 in
theorem once_long (v : Value) (l : List Int) (w : World) (hg : ErrT w) (hv : U8s w v l) (hl : ¬ l.length ≤ 40) :
    Calls Tryd.prog 6 #[v] w fun e w' => e = .returned (.bool true) ∧ Below w.heap.size w w' := by
  obtain ⟨p0, c0, rfl⟩ : ∃ q c, v = .slice q l.length c := by obtain ⟨x, h⟩ := hv; exact h.shape
  have d1 : decide ((40 : Int) < (l.length : Int)) = true := decide_eq_true (by omega)
  clear hv hl
  go_enter Tryd.func6, Tryd.ntmps6
  go_wp2_with fail
  have B_0 := Lib.hid (Below.refl w.heap.size w)
  have HG := Lib.hid hg
  clear hg
  refine (known4_any _ HG.out).mono ?_
  rintro ev w1 ⟨rfl, hb⟩
  have B_1 := Lib.hid (bOn B_0.out hb)
  clear hb B_0
  go_wp2_with fail
  go_ret
  exact ⟨rfl, B_1.out⟩

set_option maxHeartbeats 8000000 in
set_option maxRecDepth 100000 in
theorem once_no (v : Value) (l : List Int) (w : World) (hg : ErrT w) (hv : U8s w v l) (hin : In8 l) (hl : l.length ≤ 40) (he : ¬ (rd l).2.2 = 0) :
    Calls Tryd.prog 6 #[v] w fun e w' => e = .returned (.bool true) ∧ Below w.heap.size w w' := by
  obtain ⟨p0, c0, rfl⟩ : ∃ q c, v = .slice q l.length c := by obtain ⟨x, h⟩ := hv; exact h.shape
  have d1 : decide ((40 : Int) < (l.length : Int)) = false := decide_eq_false (by omega)
  have HIN := Lib.hid hin
  obtain ⟨R, hR⟩ : ∃ R, rd l = R := ⟨_, rfl⟩
  rw [hR] at he
  obtain ⟨x, n, e⟩ := R
  simp only at he
  have hrU : uintR l 0 0 18446744073709551615 = (0, 0, e) := by unfold uintR; rw [if_pos rfl, List.drop_zero, hR, if_neg he]
  have hrI : intR l 0 0 9223372036854775808 = (0, 0, e) := by unfold intR; rw [if_pos rfl, List.drop_zero, hR, if_neg he]
  have HE := Lib.hid he
  clear hR he
  clear hin
  go_enter Tryd.func6, Tryd.ntmps6
  go_wp2_with fail
  have B_0 := Lib.hid (Below.refl w.heap.size w)
  have HG := Lib.hid hg
  clear hg
  have V_0 := Lib.hid (OldB.of hv)
  clear hv
  refine (known4_any _ HG.out).mono ?_
  rintro ev w1 ⟨rfl, hb⟩
  have V_1 := Lib.hid (V_0.out.below hb)
  have B_1 := Lib.hid (bOn B_0.out hb)
  clear hb V_0 B_0
  go_wp2_with fail
  refine (new_any _ l _ V_1.out.s HIN.out (by omega)).mono ?_
  rintro ev w2 ⟨b, rfl, hr, hb⟩
  have V_2 := Lib.hid (V_1.out.below hb)
  have B_2 := Lib.hid (bOn B_1.out hb)
  have z1 : w.heap.size ≤ b := by have h1 := hr.lt; have h2 := B_1.out.size; omega
  have R_2 := Lib.hid (hr)
  clear hb V_1 B_1 hr
  go_wp2_with fail
  refine (new_any _ l _ V_2.out.s HIN.out (by omega)).mono ?_
  rintro ev w3 ⟨c, rfl, hr, hb⟩
  have V_3 := Lib.hid (V_2.out.below hb)
  have R_3 := Lib.hid (R_2.out.below hb)
  have B_3 := Lib.hid (bOn B_2.out hb)
  have z2 : b < c := by have h1 := hr.lt; have h2 := R_2.out.lt; omega
  have z3 : b < w2.heap.size := R_2.out.lt.2.1
  have z4 : w.heap.size ≤ c := by omega
  have S_3 := Lib.hid (hr)
  clear hb V_2 R_2 B_2 hr
  go_wp2_with fail
  refine (vU (V := 0) (a' := 0) (e' := e) R_3.out hrU).mono ?_
  rintro ev w4 ⟨rfl, hr, hb⟩
  have V_4 := Lib.hid (V_3.out.but hb z1)
  have S_4 := Lib.hid (S_3.out.but hb (Or.inl z3))
  have B_4 := Lib.hid (bOnB B_3.out hb z1)
  have R_4 := Lib.hid (hr)
  clear hb V_3 R_3 S_3 B_3 hr
  go_wp2_with fail
  refine (vI (V := 0) (a' := 0) (e' := e) S_4.out hrI).mono ?_
  rintro ev w5 ⟨rfl, hr, hb⟩
  have V_5 := Lib.hid (V_4.out.but hb z4)
  have R_5 := Lib.hid (R_4.out.but hb (Or.inr z2))
  have B_5 := Lib.hid (bOnB B_4.out hb z4)
  have S_5 := Lib.hid (hr)
  clear hb V_4 S_4 R_4 B_4 hr
  go_wp2_with fail
  refine (vErr R_5.out HE.out).mono ?_
  rintro ev w6 ⟨v9, rfl, ⟨-, k9, rfl⟩, hb⟩
  have V_6 := Lib.hid (V_5.out.below hb)
  have R_6 := Lib.hid (R_5.out.below hb)
  have S_6 := Lib.hid (S_5.out.below hb)
  have B_6 := Lib.hid (bOn B_5.out hb)
  clear hb V_5 R_5 S_5 B_5
  go_wp2_with fail
  refine (vErr S_6.out HE.out).mono ?_
  rintro ev w7 ⟨v8, rfl, ⟨-, k8, rfl⟩, hb⟩
  have V_7 := Lib.hid (V_6.out.below hb)
  have R_7 := Lib.hid (R_6.out.below hb)
  have S_7 := Lib.hid (S_6.out.below hb)
  have B_7 := Lib.hid (bOn B_6.out hb)
  clear hb V_6 R_6 S_6 B_6
  go_wp2_with fail
  refine (vAt R_7.out).mono ?_
  rintro ev w8 ⟨rfl, hb⟩
  have V_8 := Lib.hid (V_7.out.below hb)
  have R_8 := Lib.hid (R_7.out.below hb)
  have S_8 := Lib.hid (S_7.out.below hb)
  have B_8 := Lib.hid (bOn B_7.out hb)
  clear hb V_7 R_7 S_7 B_7
  go_wp2_with fail
  go_ret
  exact ⟨rfl, B_8.out⟩

set_option maxHeartbeats 8000000 in
set_option maxRecDepth 100000 in
theorem once_yes (v : Value) (l : List Int) (w : World) (hg : ErrT w) (hv : U8s w v l) (hin : In8 l) (hl : l.length ≤ 40) (he : (rd l).2.2 = 0) :
    Calls Tryd.prog 6 #[v] w fun e w' => e = .returned (.bool true) ∧ Below w.heap.size w w' := by
  obtain ⟨p0, c0, rfl⟩ : ∃ q c, v = .slice q l.length c := by obtain ⟨x, h⟩ := hv; exact h.shape
  have d1 : decide ((40 : Int) < (l.length : Int)) = false := decide_eq_false (by omega)
  have HIN := Lib.hid hin
  obtain ⟨k0, k1, k2, k3⟩ := rd_once hin he
  obtain ⟨R, hR⟩ : ∃ R, rd l = R := ⟨_, rfl⟩
  rw [hR] at k0 k1 k2 k3 he
  obtain ⟨x, n, e⟩ := R
  simp only at k0 k1 k2 k3 he
  subst he
  have hf := foldZ_unfZ k0
  have hu := unfZ_in k0 k1
  have hm := amtZ_in k0 k1
  have hrU : uintR l 0 0 18446744073709551615 = (x, n, 0) := by unfold uintR; rw [if_pos rfl, List.drop_zero, hR, if_pos rfl, if_neg (by show ¬ _ < x; omega)]; simp
  have hrI : intR l 0 0 9223372036854775808 = (unfZ x, n, 0) := by unfold intR; rw [if_pos rfl, List.drop_zero, hR, if_pos rfl, if_neg (by show ¬ _ < amtZ x; omega)]; simp
  obtain ⟨y, hy⟩ : ∃ y, unfZ x = y := ⟨_, rfl⟩
  rw [hy] at hf hu hrI
  obtain ⟨TX, hTX⟩ : ∃ s, strOfNums (l.take n) = s := ⟨_, rfl⟩
  have KX := Lib.hid k3
  have KT := Lib.hid hTX
  have KF := Lib.hid hf
  have k4 : n ≤ 40 := by omega
  clear hR hf hm hy k3 hTX
  clear hin
  go_enter Tryd.func6, Tryd.ntmps6
  go_wp2_with fail
  have B_0 := Lib.hid (Below.refl w.heap.size w)
  have HG := Lib.hid hg
  clear hg
  have V_0 := Lib.hid (OldB.of hv)
  clear hv
  refine (known4_any _ HG.out).mono ?_
  rintro ev w1 ⟨rfl, hb⟩
  have V_1 := Lib.hid (V_0.out.below hb)
  have B_1 := Lib.hid (bOn B_0.out hb)
  clear hb V_0 B_0
  go_wp2_with fail
  refine (new_any _ l _ V_1.out.s HIN.out (by omega)).mono ?_
  rintro ev w2 ⟨b, rfl, hr, hb⟩
  have V_2 := Lib.hid (V_1.out.below hb)
  have B_2 := Lib.hid (bOn B_1.out hb)
  have z1 : w.heap.size ≤ b := by have h1 := hr.lt; have h2 := B_1.out.size; omega
  have R_2 := Lib.hid (hr)
  clear hb V_1 B_1 hr
  go_wp2_with fail
  refine (new_any _ l _ V_2.out.s HIN.out (by omega)).mono ?_
  rintro ev w3 ⟨c, rfl, hr, hb⟩
  have V_3 := Lib.hid (V_2.out.below hb)
  have R_3 := Lib.hid (R_2.out.below hb)
  have B_3 := Lib.hid (bOn B_2.out hb)
  have z2 : b < c := by have h1 := hr.lt; have h2 := R_2.out.lt; omega
  have z3 : b < w2.heap.size := R_2.out.lt.2.1
  have z4 : w.heap.size ≤ c := by omega
  have S_3 := Lib.hid (hr)
  clear hb V_2 R_2 B_2 hr
  go_wp2_with fail
  refine (vU (V := x) (a' := n) (e' := 0) R_3.out hrU).mono ?_
  rintro ev w4 ⟨rfl, hr, hb⟩
  have V_4 := Lib.hid (V_3.out.but hb z1)
  have S_4 := Lib.hid (S_3.out.but hb (Or.inl z3))
  have B_4 := Lib.hid (bOnB B_3.out hb z1)
  have R_4 := Lib.hid (hr)
  clear hb V_3 R_3 S_3 B_3 hr
  go_wp2_with fail
  refine (vI (V := y) (a' := n) (e' := 0) S_4.out hrI).mono ?_
  rintro ev w5 ⟨rfl, hr, hb⟩
  have V_5 := Lib.hid (V_4.out.but hb z4)
  have R_5 := Lib.hid (R_4.out.but hb (Or.inr z2))
  have B_5 := Lib.hid (bOnB B_4.out hb z4)
  have S_5 := Lib.hid (hr)
  clear hb V_4 S_4 R_4 B_4 hr
  go_wp2_with fail
  refine (vErr0 R_5.out).mono ?_
  rintro ev w6 ⟨rfl, hb⟩
  have V_6 := Lib.hid (V_5.out.below hb)
  have R_6 := Lib.hid (R_5.out.below hb)
  have S_6 := Lib.hid (S_5.out.below hb)
  have B_6 := Lib.hid (bOn B_5.out hb)
  clear hb V_5 R_5 S_5 B_5
  go_wp2_with fail
  have V := V_6
  have R := R_6
  have S := S_6
  clear V_6 R_6 S_6
  have hGS : Grows (fun w' => Below w6.heap.size w6 w') := Grows.below w6
  refine' wp_growL _ (fun w' => Below w6.heap.size w6 w') [[], [0], [1], [2], [3], [3, 4], [3], [3, 6], [3, 5, 7], [3, 8], [9], [10], [10, 11], [10, 12], [10], [10], [10, 15], [10, 14, 16], [10, 17], [10, 13, 18], [10, 19], [20], [21], [21, 22], [21, 23], [21], [21], [21, 26], [21, 25, 27], [21, 28], [21, 24, 29], [21, 30], [31]] (Fact.lit _ :: Fact.lit _ :: Fact.lit _ :: Fact.lit _ :: Fact.lit _ :: Fact.lit _ :: Fact.lit _ :: Fact.lit _ :: Fact.lit _ :: Fact.lit _ :: Fact.lit _ :: Fact.lit _ :: Fact.prop _ _ :: Fact.lit _ :: Fact.lit _ :: Fact.lit _ :: Fact.lit _ :: Fact.lit _ :: Fact.lit _ :: Fact.lit _ :: Fact.lit _ :: Fact.lit _ :: Fact.lit _ :: Fact.prop _ _ :: Fact.lit _ :: Fact.lit _ :: Fact.lit _ :: Fact.lit _ :: Fact.lit _ :: Fact.lit _ :: Fact.lit _ :: Fact.lit _ :: Fact.lit _ :: []) (by kernel_rfl) rfl (by kernel_rfl) (Below.refl _ _).drew ?seqo
  case' seqo => skip
  (first | (refine' grow_skip rfl ?wt1 ?put1 ?next1; (case wt1 => rfl)) | (refine' grow_lit rfl ?wt1 ?run1 ?put1 ?next1; (case wt1 => rfl); (case run1 => (intro w' hS H; clear H; (have hnc : n ≤ c0 := Nat.le_trans k2 (V.out.below hS).cap.2); clear hS; go_simp; first | done | exact rfl)))); (case put1 => (simp only [Act.put, List.setIfInBounds_toArray, List.set_cons_zero, List.set_cons_succ]; first | done | exact rfl)); (case' next1 => skip)
  (refine' grow_call (u := .nilIface) rfl Tryd.func18 (by kernel_rfl) rfl hGS rfl ?wt23 ?run23 ?put23 ?next23; (case wt23 => rfl); (case run23 => (intro w' hS H; exact vErr0 (S.out.below hS))); (case put23 => (simp only [Act.put, List.setIfInBounds_toArray, List.set_cons_zero, List.set_cons_succ]; first | done | exact rfl)); (case' next23 => skip))
  (first | (refine' grow_skip rfl ?wt2 ?put2 ?next2; (case wt2 => rfl)) | (refine' grow_lit rfl ?wt2 ?run2 ?put2 ?next2; (case wt2 => rfl); (case run2 => (intro w' hS H; clear H; (have hnc : n ≤ c0 := Nat.le_trans k2 (V.out.below hS).cap.2); clear hS; go_simp; first | done | exact rfl)))); (case put2 => (simp only [Act.put, List.setIfInBounds_toArray, List.set_cons_zero, List.set_cons_succ]; first | done | exact rfl)); (case' next2 => skip)
  (first | (refine' grow_skip rfl ?wt3 ?put3 ?next3; (case wt3 => rfl)) | (refine' grow_lit rfl ?wt3 ?run3 ?put3 ?next3; (case wt3 => rfl); (case run3 => (intro w' hS H; clear H; (have hnc : n ≤ c0 := Nat.le_trans k2 (V.out.below hS).cap.2); clear hS; go_simp; first | done | exact rfl)))); (case put3 => (simp only [Act.put, List.setIfInBounds_toArray, List.set_cons_zero, List.set_cons_succ]; first | done | exact rfl)); (case' next3 => skip)
  (first | (refine' grow_skip rfl ?wt4 ?put4 ?next4; (case wt4 => rfl)) | (refine' grow_lit rfl ?wt4 ?run4 ?put4 ?next4; (case wt4 => rfl); (case run4 => (intro w' hS H; clear H; (have hnc : n ≤ c0 := Nat.le_trans k2 (V.out.below hS).cap.2); clear hS; go_simp; first | done | exact rfl)))); (case put4 => (simp only [Act.put, List.setIfInBounds_toArray, List.set_cons_zero, List.set_cons_succ]; first | done | exact rfl)); (case' next4 => skip)
  (refine' grow_call (u := .int .i64 n) rfl Tryd.func17 (by kernel_rfl) rfl hGS rfl ?wt24 ?run24 ?put24 ?next24; (case wt24 => rfl); (case run24 => (intro w' hS H; exact vAt (R.out.below hS))); (case put24 => (simp only [Act.put, List.setIfInBounds_toArray, List.set_cons_zero, List.set_cons_succ]; first | done | exact rfl)); (case' next24 => skip))
  (first | (refine' grow_skip rfl ?wt5 ?put5 ?next5; (case wt5 => rfl)) | (refine' grow_lit rfl ?wt5 ?run5 ?put5 ?next5; (case wt5 => rfl); (case run5 => (intro w' hS H; clear H; (have hnc : n ≤ c0 := Nat.le_trans k2 (V.out.below hS).cap.2); clear hS; go_simp; first | done | exact rfl)))); (case put5 => (simp only [Act.put, List.setIfInBounds_toArray, List.set_cons_zero, List.set_cons_succ]; first | done | exact rfl)); (case' next5 => skip)
  (refine' grow_call (u := .int .i64 n) rfl Tryd.func17 (by kernel_rfl) rfl hGS rfl ?wt25 ?run25 ?put25 ?next25; (case wt25 => rfl); (case run25 => (intro w' hS H; exact vAt (S.out.below hS))); (case put25 => (simp only [Act.put, List.setIfInBounds_toArray, List.set_cons_zero, List.set_cons_succ]; first | done | exact rfl)); (case' next25 => skip))
  (first | (refine' grow_skip rfl ?wt6 ?put6 ?next6; (case wt6 => rfl)) | (refine' grow_lit rfl ?wt6 ?run6 ?put6 ?next6; (case wt6 => rfl); (case run6 => (intro w' hS H; clear H; (have hnc : n ≤ c0 := Nat.le_trans k2 (V.out.below hS).cap.2); clear hS; go_simp; first | done | exact rfl)))); (case put6 => (simp only [Act.put, List.setIfInBounds_toArray, List.set_cons_zero, List.set_cons_succ]; first | done | exact rfl)); (case' next6 => skip)
  (first | (refine' grow_skip rfl ?wt7 ?put7 ?next7; (case wt7 => rfl)) | (refine' grow_lit rfl ?wt7 ?run7 ?put7 ?next7; (case wt7 => rfl); (case run7 => (intro w' hS H; clear H; (have hnc : n ≤ c0 := Nat.le_trans k2 (V.out.below hS).cap.2); clear hS; go_simp; first | done | exact rfl)))); (case put7 => (simp only [Act.put, List.setIfInBounds_toArray, List.set_cons_zero, List.set_cons_succ]; first | done | exact rfl)); (case' next7 => skip)
  (first | (refine' grow_skip rfl ?wt8 ?put8 ?next8; (case wt8 => rfl)) | (refine' grow_lit rfl ?wt8 ?run8 ?put8 ?next8; (case wt8 => rfl); (case run8 => (intro w' hS H; clear H; (have hnc : n ≤ c0 := Nat.le_trans k2 (V.out.below hS).cap.2); clear hS; go_simp; first | done | exact rfl)))); (case put8 => (simp only [Act.put, List.setIfInBounds_toArray, List.set_cons_zero, List.set_cons_succ]; first | done | exact rfl)); (case' next8 => skip)
  (first | (refine' grow_skip rfl ?wt9 ?put9 ?next9; (case wt9 => rfl)) | (refine' grow_lit rfl ?wt9 ?run9 ?put9 ?next9; (case wt9 => rfl); (case run9 => (intro w' hS H; clear H; (have hnc : n ≤ c0 := Nat.le_trans k2 (V.out.below hS).cap.2); clear hS; go_simp; first | done | exact rfl)))); (case put9 => (simp only [Act.put, List.setIfInBounds_toArray, List.set_cons_zero, List.set_cons_succ]; first | done | exact rfl)); (case' next9 => skip)
  (refine' grow_callP (p := fun v w => U8s w v (enc x)) (hp := fun v w w' h hb => U8s.below h hb) rfl Tryd.func9 (by kernel_rfl) rfl hGS rfl ?wt26 ?run26 ?put26 ?next26; (case wt26 => rfl); (case run26 => (intro w' hS H; exact (wuint_any x w' k0 k1).mono (fun e w2 ⟨v, z, h1, h2, h3, h4⟩ => ⟨v, h1, ⟨z, h2⟩, h4⟩))); (case put26 => (intro v; simp only [Act.put, List.setIfInBounds_toArray, List.set_cons_zero, List.set_cons_succ]; first | done | exact rfl)); (case' next26 => intro v12))
  (refine' grow_lit rfl ?wtL1 ?runL1 ?putL1 ?nextL1; (case wtL1 => rfl); (case runL1 => (intro w' hS H; (have h3 : U8s w' v12 (enc x) := H 12 (by decide)); (have q := text_of h3 ((congrArg strOfNums KX.out).trans KT.out)); clear H hS; go_simp; first | done | exact rfl)); (case putL1 => (simp only [Act.put, List.setIfInBounds_toArray, List.set_cons_zero, List.set_cons_succ]; first | done | exact rfl)); (case' nextL1 => skip))
  (first | (refine' grow_skip rfl ?wt10 ?put10 ?next10; (case wt10 => rfl)) | (refine' grow_lit rfl ?wt10 ?run10 ?put10 ?next10; (case wt10 => rfl); (case run10 => (intro w' hS H; clear H; (have hnc : n ≤ c0 := Nat.le_trans k2 (V.out.below hS).cap.2); clear hS; go_simp; first | done | exact rfl)))); (case put10 => (simp only [Act.put, List.setIfInBounds_toArray, List.set_cons_zero, List.set_cons_succ]; first | done | exact rfl)); (case' next10 => skip)
  (first | (refine' grow_skip rfl ?wt11 ?put11 ?next11; (case wt11 => rfl)) | (refine' grow_lit rfl ?wt11 ?run11 ?put11 ?next11; (case wt11 => rfl); (case run11 => (intro w' hS H; clear H; (have hnc : n ≤ c0 := Nat.le_trans k2 (V.out.below hS).cap.2); clear hS; go_simp; first | done | exact rfl)))); (case put11 => (simp only [Act.put, List.setIfInBounds_toArray, List.set_cons_zero, List.set_cons_succ]; first | done | exact rfl)); (case' next11 => skip)
  (refine' grow_call (u := .int .i64 n) rfl Tryd.func17 (by kernel_rfl) rfl hGS rfl ?wt27 ?run27 ?put27 ?next27; (case wt27 => rfl); (case run27 => (intro w' hS H; exact vAt (R.out.below hS))); (case put27 => (simp only [Act.put, List.setIfInBounds_toArray, List.set_cons_zero, List.set_cons_succ]; first | done | exact rfl)); (case' next27 => skip))
  (first | (refine' grow_skip rfl ?wt12 ?put12 ?next12; (case wt12 => rfl)) | (refine' grow_lit rfl ?wt12 ?run12 ?put12 ?next12; (case wt12 => rfl); (case run12 => (intro w' hS H; clear H; (have hnc : n ≤ c0 := Nat.le_trans k2 (V.out.below hS).cap.2); clear hS; go_simp; first | done | exact rfl)))); (case put12 => (simp only [Act.put, List.setIfInBounds_toArray, List.set_cons_zero, List.set_cons_succ]; first | done | exact rfl)); (case' next12 => skip)
  (refine' grow_lit rfl ?wtL2 ?runL2 ?putL2 ?nextL2; (case wtL2 => rfl); (case runL2 => (intro w' hS H; (have q := text_of ((V.out.below hS).take n k2) KT.out); clear H hS; go_simp; first | done | exact rfl)); (case putL2 => (simp only [Act.put, List.setIfInBounds_toArray, List.set_cons_zero, List.set_cons_succ]; first | done | exact rfl)); (case' nextL2 => skip))
  (first | (refine' grow_skip rfl ?wt13 ?put13 ?next13; (case wt13 => rfl)) | (refine' grow_lit rfl ?wt13 ?run13 ?put13 ?next13; (case wt13 => rfl); (case run13 => (intro w' hS H; clear H; (have hnc : n ≤ c0 := Nat.le_trans k2 (V.out.below hS).cap.2); clear hS; go_simp; first | done | exact rfl)))); (case put13 => (simp only [Act.put, List.setIfInBounds_toArray, List.set_cons_zero, List.set_cons_succ]; first | done | exact rfl)); (case' next13 => skip)
  (first | (refine' grow_skip rfl ?wt14 ?put14 ?next14; (case wt14 => rfl)) | (refine' grow_lit rfl ?wt14 ?run14 ?put14 ?next14; (case wt14 => rfl); (case run14 => (intro w' hS H; clear H; (have hnc : n ≤ c0 := Nat.le_trans k2 (V.out.below hS).cap.2); clear hS; go_simp; first | done | exact rfl)))); (case put14 => (simp only [Act.put, List.setIfInBounds_toArray, List.set_cons_zero, List.set_cons_succ]; first | done | exact rfl)); (case' next14 => skip)
  (first | (refine' grow_skip rfl ?wt15 ?put15 ?next15; (case wt15 => rfl)) | (refine' grow_lit rfl ?wt15 ?run15 ?put15 ?next15; (case wt15 => rfl); (case run15 => (intro w' hS H; clear H; (have hnc : n ≤ c0 := Nat.le_trans k2 (V.out.below hS).cap.2); clear hS; go_simp; first | done | exact rfl)))); (case put15 => (simp only [Act.put, List.setIfInBounds_toArray, List.set_cons_zero, List.set_cons_succ]; first | done | exact rfl)); (case' next15 => skip)
  (first | (refine' grow_skip rfl ?wt16 ?put16 ?next16; (case wt16 => rfl)) | (refine' grow_lit rfl ?wt16 ?run16 ?put16 ?next16; (case wt16 => rfl); (case run16 => (intro w' hS H; clear H; (have hnc : n ≤ c0 := Nat.le_trans k2 (V.out.below hS).cap.2); clear hS; go_simp; first | done | exact rfl)))); (case put16 => (simp only [Act.put, List.setIfInBounds_toArray, List.set_cons_zero, List.set_cons_succ]; first | done | exact rfl)); (case' next16 => skip)
  (refine' grow_callP (p := fun v w => U8s w v (enc x)) (hp := fun v w w' h hb => U8s.below h hb) rfl Tryd.func11 (by kernel_rfl) rfl hGS rfl ?wt28 ?run28 ?put28 ?next28; (case wt28 => rfl); (case run28 => (intro w' hS H; exact (wint_any y w' hu.1 hu.2).mono (fun e w2 ⟨v, z, h1, h2, h3, h4⟩ => ⟨v, h1, ⟨z, KF.out ▸ h2⟩, h4⟩))); (case put28 => (intro v; simp only [Act.put, List.setIfInBounds_toArray, List.set_cons_zero, List.set_cons_succ]; first | done | exact rfl)); (case' next28 => intro v23))
  (refine' grow_lit rfl ?wtL3 ?runL3 ?putL3 ?nextL3; (case wtL3 => rfl); (case runL3 => (intro w' hS H; (have h3 : U8s w' v23 (enc x) := H 23 (by decide)); (have q := text_of h3 ((congrArg strOfNums KX.out).trans KT.out)); clear H hS; go_simp; first | done | exact rfl)); (case putL3 => (simp only [Act.put, List.setIfInBounds_toArray, List.set_cons_zero, List.set_cons_succ]; first | done | exact rfl)); (case' nextL3 => skip))
  (first | (refine' grow_skip rfl ?wt17 ?put17 ?next17; (case wt17 => rfl)) | (refine' grow_lit rfl ?wt17 ?run17 ?put17 ?next17; (case wt17 => rfl); (case run17 => (intro w' hS H; clear H; (have hnc : n ≤ c0 := Nat.le_trans k2 (V.out.below hS).cap.2); clear hS; go_simp; first | done | exact rfl)))); (case put17 => (simp only [Act.put, List.setIfInBounds_toArray, List.set_cons_zero, List.set_cons_succ]; first | done | exact rfl)); (case' next17 => skip)
  (first | (refine' grow_skip rfl ?wt18 ?put18 ?next18; (case wt18 => rfl)) | (refine' grow_lit rfl ?wt18 ?run18 ?put18 ?next18; (case wt18 => rfl); (case run18 => (intro w' hS H; clear H; (have hnc : n ≤ c0 := Nat.le_trans k2 (V.out.below hS).cap.2); clear hS; go_simp; first | done | exact rfl)))); (case put18 => (simp only [Act.put, List.setIfInBounds_toArray, List.set_cons_zero, List.set_cons_succ]; first | done | exact rfl)); (case' next18 => skip)
  (refine' grow_call (u := .int .i64 n) rfl Tryd.func17 (by kernel_rfl) rfl hGS rfl ?wt29 ?run29 ?put29 ?next29; (case wt29 => rfl); (case run29 => (intro w' hS H; exact vAt (R.out.below hS))); (case put29 => (simp only [Act.put, List.setIfInBounds_toArray, List.set_cons_zero, List.set_cons_succ]; first | done | exact rfl)); (case' next29 => skip))
  (first | (refine' grow_skip rfl ?wt19 ?put19 ?next19; (case wt19 => rfl)) | (refine' grow_lit rfl ?wt19 ?run19 ?put19 ?next19; (case wt19 => rfl); (case run19 => (intro w' hS H; clear H; (have hnc : n ≤ c0 := Nat.le_trans k2 (V.out.below hS).cap.2); clear hS; go_simp; first | done | exact rfl)))); (case put19 => (simp only [Act.put, List.setIfInBounds_toArray, List.set_cons_zero, List.set_cons_succ]; first | done | exact rfl)); (case' next19 => skip)
  (refine' grow_lit rfl ?wtL4 ?runL4 ?putL4 ?nextL4; (case wtL4 => rfl); (case runL4 => (intro w' hS H; (have q := text_of ((V.out.below hS).take n k2) KT.out); clear H hS; go_simp; first | done | exact rfl)); (case putL4 => (simp only [Act.put, List.setIfInBounds_toArray, List.set_cons_zero, List.set_cons_succ]; first | done | exact rfl)); (case' nextL4 => skip))
  (first | (refine' grow_skip rfl ?wt20 ?put20 ?next20; (case wt20 => rfl)) | (refine' grow_lit rfl ?wt20 ?run20 ?put20 ?next20; (case wt20 => rfl); (case run20 => (intro w' hS H; clear H; (have hnc : n ≤ c0 := Nat.le_trans k2 (V.out.below hS).cap.2); clear hS; go_simp; first | done | exact rfl)))); (case put20 => (simp only [Act.put, List.setIfInBounds_toArray, List.set_cons_zero, List.set_cons_succ]; first | done | exact rfl)); (case' next20 => skip)
  (first | (refine' grow_skip rfl ?wt21 ?put21 ?next21; (case wt21 => rfl)) | (refine' grow_lit rfl ?wt21 ?run21 ?put21 ?next21; (case wt21 => rfl); (case run21 => (intro w' hS H; clear H; (have hnc : n ≤ c0 := Nat.le_trans k2 (V.out.below hS).cap.2); clear hS; go_simp; first | done | exact rfl)))); (case put21 => (simp only [Act.put, List.setIfInBounds_toArray, List.set_cons_zero, List.set_cons_succ]; first | done | exact rfl)); (case' next21 => skip)
  (first | (refine' grow_skip rfl ?wt22 ?put22 ?next22; (case wt22 => rfl)) | (refine' grow_lit rfl ?wt22 ?run22 ?put22 ?next22; (case wt22 => rfl); (case run22 => (intro w' hS H; clear H; (have hnc : n ≤ c0 := Nat.le_trans k2 (V.out.below hS).cap.2); clear hS; go_simp; first | done | exact rfl)))); (case put22 => (simp only [Act.put, List.setIfInBounds_toArray, List.set_cons_zero, List.set_cons_succ]; first | done | exact rfl)); (case' next22 => skip)
  intro w9 hb _
  have HF := Lib.hid (bOn B_6.out hb)
  clear hb hGS
  go_wp2_with fail
  go_ret
  exact ⟨rfl, HF.out⟩

theorem once_walk (v : Value) (l : List Int) (w : World) (hg : ErrT w) (hv : U8s w v l) (hin : In8 l) :
    Calls Tryd.prog 6 #[v] w fun e w' => e = .returned (.bool true) ∧ Below w.heap.size w w' := by
  by_cases hl : l.length ≤ 40
  · by_cases he : (rd l).2.2 = 0
    · exact once_yes v l w hg hv hin hl he
    · exact once_no v l w hg hv hin hl he
  · exact once_long v l w hg hv hl

set_option maxRecDepth 100000 in
theorem wireOnce_walks : Walks laidAll 6 Tryd.f6 := by
  intro H enc W args ds g
  obtain ⟨ps, hA⟩ := g.reads
  obtain ⟨base, hval⟩ := g.okay
  rw [Tryd.params6] at hA hval
  obtain ⟨v0, vs0, d0, ds0, p0, q0, hargs, rfl, rfl, h0, r0⟩ := trodAll_cons hA
  obtain ⟨rfl, rfl, rfl⟩ := trodAll_nil r0
  obtain rfl : args = #[v0] := Array.toList_inj.1 hargs
  obtain ⟨x0, w0, u0⟩ := open_u8s (hval 0 26 v0 rfl rfl) h0
  exact once_walk v0 x0 W (errT_of_laid g.laid) w0 u0

theorem wireOnce_row : Rows.WireOnceSaid :=
  OpenClaim.holds_of_wide 6 Tryd.f6 rfl rfl rfl rfl rfl rfl rfl ⟨rfl, rfl, rfl, rfl, rfl⟩ rfl rfl rfl rfl rfl (by kernel_rfl) Tryd.func6 (by kernel_rfl)
    (of_decide_eq_true (by kernel_rfl)) (by unfold Func.isWrapper; rw [if_neg (of_decide_eq_false (by kernel_rfl))]; exact ⟨rfl, rfl⟩)
    (fun os started H enc _ => law_lifted (s := Rows.wireOnceSpec) (L := laidAll) Tryd.func6 (by kernel_rfl) rfl (by kernel_rfl)
      (fun H ds hl => by
        rw [Tryd.params6] at hl
        match ds, hl with
        | [_], _ => exact ⟨rfl, rfl, rfl⟩)
      (by kernel_rfl) os started H enc
      (ChangeSpec.witness_at (enc := enc) (C := Tryd.checked) (os := os) (X := fun w _ => laidMetH Tryd.prog laidAll w) false (laidWorld os) #[.slice none 0 0] 8 rfl (by kernel_rfl) (by kernel_rfl) (by kernel_rfl) (by kernel_rfl) (by kernel_rfl) (laidWorld_met os _))
      wireOnce_walks)

theorem wireOnce_card : Rows.WireOnceCardSaid :=
  Claim7.holds_tied_plain_at .later [] laidKindsAll true (Rows.wireOnceCard.stood.harness) true
    wireOnce_row (fun _ h => by cases h) (by kernel_rfl) (fun _ h => by cases h) wireOnce_row_tie rfl ⟨rfl, rfl⟩ (by kernel_rfl) rfl
    (fun f fn hf hfn => by
      obtain rfl : f = 6 := Option.some.inj ((show Tryd.prog.funcNamed "roundsman/roundsmanlaw4.WireOnce" = some 6 by kernel_rfl).symm.trans hf) |>.symm
      obtain rfl : fn = Tryd.f6 := (Option.some.inj (Tryd.func6.symm.trans hfn)).symm
      exact ⟨by kernel_rfl, fun j t ht => by
        rw [Tryd.params6] at ht
        exact stand_all #[26] (by kernel_rfl) j t ht⟩)
    (by kernel_rfl)
#print axioms wireOnce_card

end Go.Proofs.YtjicekblfpgkdaaDoor
