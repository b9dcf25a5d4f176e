/-
  PROVED: any bytes' sum; with one byte turned into another one, or two unlike ones side by side changed over, it is another one. For every row of bytes, place and byte. Conditions: the listed library variable holds what the program's own text lays (the card ties it).
-/
import Derived.Test.YtjicekblfpgkdaaDoorKnown4
import Derived.Test.YtjicekblfpgkdaaDoorLaid4
import Derived.Test.YtjicekblfpgkdaaDoorCards
import Derived.Test.YtjicekblfpgkdaaDoorTie
import Derived.SevenTiedAt
import Derived.Test.YtjicekblfpgkdaaDoorW4S
namespace Go.Proofs.YtjicekblfpgkdaaDoor
open Go.ChangeShapes Go.WideShapes Go.ChangeAt Go.RowKit

theorem beq_is (x y : Int) : (x == y) = decide (x = y) := by by_cases h : x = y <;> simp [h]
theorem toList_inj {s t : ByteArray} (h : s.toList = t.toList) : s = t := by
  rw [ByteArray.toList_eq, ByteArray.toList_eq] at h
  cases s; cases t
  exact congrArg ByteArray.mk (Array.toList_inj.1 h)
theorem text_inj {l m : List Int} (hl : In8 l) (hm : In8 m) : ((strOfNums l).toList == (strOfNums m).toList) = decide (l = m) := by
  by_cases h : l = m
  · subst h; simp
  · rw [decide_eq_false h]
    exact beq_eq_false_iff_ne.2 fun e => h (strOfNums_inj hl hm (toList_inj e))

set_option maxHeartbeats 8000000 in
set_option maxRecDepth 100000 in
theorem sums_long (v : Value) (l : List Int) (T C : Int) (w : World) (hg : ErrT w) (hv : U8s w v l) (hl : ¬ l.length ≤ 400) :
    Calls Tryd.prog 4 #[v, .int .u16 T, .int .u8 C] w fun e w' => e = .returned (.bool true) ∧ Below w.heap.size w w' := by
  obtain ⟨p0, c0, rfl⟩ : ∃ q c, v = .slice q l.length c := by obtain ⟨x, h⟩ := hv; exact h.shape
  have d1 : decide ((400 : Int) < (l.length : Int)) = true := decide_eq_true (by omega)
  clear hl hv
  go_enter Tryd.func4, Tryd.ntmps4
  go_wp2_with fail
  have B_0 := Lib.hid (Below.refl w.heap.size w)
  have HG := Lib.hid hg
  clear hg
  refine (known4_any _ HG.out).mono ?_
  rintro ev w1 ⟨rfl, hb⟩
  have B_1 := Lib.hid (bOn B_0.out hb)
  clear hb B_0
  go_wp2_with fail
  go_ret
  exact ⟨rfl, B_1.out⟩

set_option maxHeartbeats 8000000 in
set_option maxRecDepth 100000 in
theorem sums_none (v : Value) (l : List Int) (T C : Int) (w : World) (hg : ErrT w) (hv : U8s w v l) (hin : In8 l) (hl : l.length ≤ 400) (h0 : l = []) :
    Calls Tryd.prog 4 #[v, .int .u16 T, .int .u8 C] w fun e w' => e = .returned (.bool true) ∧ Below w.heap.size w w' := by
  obtain ⟨p0, c0, rfl⟩ : ∃ q c, v = .slice q l.length c := by obtain ⟨x, h⟩ := hv; exact h.shape
  have d1 : decide ((400 : Int) < (l.length : Int)) = false := decide_eq_false (by omega)
  have HIN := Lib.hid hin
  have HV := Lib.hid (OldB.of hv)
  subst h0
  obtain ⟨TS, hTS⟩ : ∃ s, strOfNums (sumB []) = s := ⟨_, rfl⟩
  have KT := Lib.hid hTS
  clear hin hv hTS
  go_enter Tryd.func4, Tryd.ntmps4
  go_wp2_with fail
  have B_0 := Lib.hid (Below.refl w.heap.size w)
  have HG := Lib.hid hg
  clear hg
  refine (known4_any _ HG.out).mono ?_
  rintro ev w1 ⟨rfl, hb⟩
  have B_1 := Lib.hid (bOn B_0.out hb)
  clear hb B_0
  obtain ⟨v2, w2, x2, hr, h2, -, hb, -⟩ := copy8 (w1.alloc (.cells #[] 5)) (.slice p0 ([] : List Int).length c0) [] (HV.out.keep (bOn B_1.out (below_new8 _))).s (by simp) w1.heap.size
  have HR := Lib.hid hr
  have U := Lib.hid (show U8s w2 v2 [] from ⟨x2, h2⟩)
  have B2 := Lib.hid (bOn (bOn B_1.out (below_new8 _)) hb)
  clear hr h2 hb B_1
  go_wp2_with (at_builtin; refine wpList_append_run (by rfl) _ _ _ rfl _ _ _ rfl rfl HR.out ?_)
  refine (wsum_any v2 [] _ U.out HIN.out).mono ?_
  rintro ev w3 ⟨v3, x3, rfl, h3, -, hb⟩
  have S := Lib.hid (show U8s w3 v3 (sumB []) from ⟨x3, h3⟩)
  have B := Lib.hid (bOn B2.out hb)
  clear h3 hb B2 U HR
  go_wp2_with fail
  have hGS : Grows (fun w' => Below w3.heap.size w3 w') := Grows.below w3
  refine' wp_growL _ (fun w' => Below w3.heap.size w3 w') [[], [0], [], [2], [3], [1, 4]] (Fact.lit _ :: Fact.lit _ :: Fact.lit _ :: Fact.prop _ _ :: Fact.lit _ :: Fact.lit _ :: []) (by kernel_rfl) rfl (by kernel_rfl) (Below.refl _ _).drew ?seqsix
  case' seqsix => skip
  (first | (refine' grow_skip rfl ?wt1 ?put1 ?next1; (case wt1 => rfl)) | (refine' grow_lit rfl ?wt1 ?run1 ?put1 ?next1; (case wt1 => rfl); (case run1 => (intro w' hS H; clear H; clear hS; go_simp; first | done | exact rfl)))); (case put1 => (simp only [Act.put, List.setIfInBounds_toArray, List.set_cons_zero, List.set_cons_succ]; first | done | exact rfl)); (case' next1 => skip)
  (refine' grow_lit rfl ?wtL1 ?runL1 ?putL1 ?nextL1; (case wtL1 => rfl); (case runL1 => (intro w' hS H; (have q := text_of (S.out.below hS) KT.out); clear H hS; go_simp; first | done | exact rfl)); (case putL1 => (simp only [Act.put, List.setIfInBounds_toArray, List.set_cons_zero, List.set_cons_succ]; first | done | exact rfl)); (case' nextL1 => skip))
  (first | (refine' grow_skip rfl ?wt2 ?put2 ?next2; (case wt2 => rfl)) | (refine' grow_lit rfl ?wt2 ?run2 ?put2 ?next2; (case wt2 => rfl); (case run2 => (intro w' hS H; clear H; clear hS; go_simp; first | done | exact rfl)))); (case put2 => (simp only [Act.put, List.setIfInBounds_toArray, List.set_cons_zero, List.set_cons_succ]; first | done | exact rfl)); (case' next2 => skip)
  (refine' grow_callP (p := fun v w => U8s w v (sumB [])) (hp := fun v w w' h hb => U8s.below h hb) rfl Tryd.func22 (by kernel_rfl) rfl hGS rfl ?wt45 ?run45 ?put45 ?next45; (case wt45 => rfl); (case run45 => (intro w' hS H; exact (rsum8_any _ [] w' (HV.out.keep (bOn B.out hS)).s HIN.out).mono (fun e w2 ⟨v, z, h1, h2, h3, h4⟩ => ⟨v, h1, ⟨z, h2⟩, h4⟩))); (case put45 => (intro v; simp only [Act.put, List.setIfInBounds_toArray, List.set_cons_zero, List.set_cons_succ]; first | done | exact rfl)); (case' next45 => intro v3))
  (refine' grow_lit rfl ?wtL2 ?runL2 ?putL2 ?nextL2; (case wtL2 => rfl); (case runL2 => (intro w' hS H; (have h3 : U8s w' v3 (sumB []) := H 3 (by decide)); (have q := text_of h3 KT.out); clear H hS; go_simp; first | done | exact rfl)); (case putL2 => (simp only [Act.put, List.setIfInBounds_toArray, List.set_cons_zero, List.set_cons_succ]; first | done | exact rfl)); (case' nextL2 => skip))
  (first | (refine' grow_skip rfl ?wt3 ?put3 ?next3; (case wt3 => rfl)) | (refine' grow_lit rfl ?wt3 ?run3 ?put3 ?next3; (case wt3 => rfl); (case run3 => (intro w' hS H; clear H; clear hS; go_simp; first | done | exact rfl)))); (case put3 => (simp only [Act.put, List.setIfInBounds_toArray, List.set_cons_zero, List.set_cons_succ]; first | done | exact rfl)); (case' next3 => skip)
  intro w4 hb _
  have hz4 := Lib.hid hb.size
  have B_ := Lib.hid (bOn B.out hb)
  clear hb hGS B S
  have B := B_
  clear B_
  go_wp2_with fail
  go_ret
  exact ⟨rfl, B.out⟩

set_option maxHeartbeats 8000000 in
set_option maxRecDepth 100000 in
theorem sums_first (v : Value) (l : List Int) (T C : Int) (w : World) (hg : ErrT w) (hv : U8s w v l) (hin : In8 l) (hl : l.length ≤ 400) (hk : 0 < l.length) (hkT : T.tmod (l.length : Int) = 0) (hC : 0 ≤ C ∧ C ≤ 255) (hT : 0 ≤ T ∧ T ≤ 65535) :
    Calls Tryd.prog 4 #[v, .int .u16 T, .int .u8 C] w fun e w' => e = .returned (.bool true) ∧ Below w.heap.size w w' := by
  obtain ⟨p0, c0, rfl⟩ : ∃ q c, v = .slice q l.length c := by obtain ⟨x, h⟩ := hv; exact h.shape
  have d1 : decide ((400 : Int) < (l.length : Int)) = false := decide_eq_false (by omega)
  have HIN := Lib.hid hin
  have HV := Lib.hid (OldB.of hv)
  have hne : ¬ l = [] := fun h => by subst h; simp at hk
  obtain ⟨xb, ob, rfl, hxl, hcell⟩ : ∃ xb ob, p0 = some ⟨xb, ob, none⟩ ∧ xb < w.heap.size ∧ ∀ i (h : i < l.length), w.cell? ⟨xb, ob + i, none⟩ = some (.int .u8 l[i]) := by
    obtain ⟨x, h⟩ := hv
    rcases h with ⟨h, -⟩ | ⟨-, o, c, -, -, e, hx, hc⟩
    · exact absurd h hne
    · injection e with e1 _ _
      exact ⟨x, o, e1, hx, hc⟩
  have hlp : ¬ (l.length : Int) = 0 := by omega
  have d0 : ((l.length : Int) == 0) = false := beq_eq_false_iff_ne.2 hlp
  obtain ⟨K, hK⟩ : ∃ K, l[0] = K := ⟨_, rfl⟩
  have HK := Lib.hid hK
  have HC : Hid (∀ w', Below w.heap.size w w' → w'.cell? ⟨xb, ob, none⟩ = some (.int .u8 K)) := Lib.hid (fun w' hb => (hb.cell (p := ⟨xb, ob, none⟩) hxl).trans (by have := hcell 0 hk; rw [Nat.add_zero] at this; rw [this, hK]))
  obtain ⟨D, hD⟩ : ∃ D, decide (C = K) = D := ⟨_, rfl⟩
  obtain ⟨TX, hTX⟩ : ∃ s, strOfNums (sumB (l.set 0 C)) = s := ⟨_, rfl⟩
  have KX := Lib.hid hTX
  have e1 : (TX.toList == (strOfNums (sumB l)).toList) = D := by
    rw [← hTX, text_inj (sumB_in8 _) (sumB_in8 _), ← hD, ← hK]
    exact decide_eq_decide.2 (sum_turned (k := 0) hin hk hC)
  have e2 : (C == K) = D := by rw [← hD]; exact beq_is _ _
  have HSI : Hid (In8 (l.set 0 C)) := Lib.hid (fun x hx => by rcases List.mem_or_eq_of_mem_set hx with h | rfl; exact hin x h; exact hC)
  clear hK hD hTX hcell
  obtain ⟨TS, hTS⟩ : ∃ s, strOfNums (sumB l) = s := ⟨_, rfl⟩
  have KT := Lib.hid hTS
  rw [hTS] at e1
  clear hin hv hTS
  go_enter Tryd.func4, Tryd.ntmps4
  go_wp2_with fail
  have B_0 := Lib.hid (Below.refl w.heap.size w)
  have HG := Lib.hid hg
  clear hg
  refine (known4_any _ HG.out).mono ?_
  rintro ev w1 ⟨rfl, hb⟩
  have B_1 := Lib.hid (bOn B_0.out hb)
  clear hb B_0
  obtain ⟨b2, c2, w2, hr, hrow, hc2, hd2, hg2, hb⟩ := copyB (w1.alloc (.cells #[] 5)) (.slice (some ⟨xb, ob, none⟩) l.length c0) l (HV.out.keep (bOn B_1.out (below_new8 _))).s (by omega) hne w1.heap.size
  have HR := Lib.hid hr
  have RB := Lib.hid hrow
  have hgs : (w1.alloc (.cells #[] 5)).heap.size = w1.heap.size + 1 := by simp
  have zg2 : w.heap.size ≤ b2 := by have h1 := B_1.out.size; omega
  have hzc2 := Lib.hid hb.size
  clear hgs
  have B2 := Lib.hid (bOn (bOn B_1.out (below_new8 _)) hb)
  clear hr hrow hb B_1
  go_wp2_with (at_builtin; refine wpList_append_run (by rfl) _ _ _ rfl _ _ _ rfl rfl HR.out ?_)
  refine (wsum_any _ l _ (RB.out.u8s hc2 hd2 rfl) HIN.out).mono ?_
  rintro ev w3 ⟨v3, x3, rfl, h3, -, hb⟩
  have S := Lib.hid (OldB.of (show U8s w3 v3 (sumB l) from ⟨x3, h3⟩))
  have B := Lib.hid (bOn B2.out hb)
  clear h3 hb B2 HR RB hg2 zg2 hc2 hd2 hzc2
  go_wp2_with fail
  have hGS : Grows (fun w' => Below w3.heap.size w3 w') := Grows.below w3
  refine' wp_growL _ (fun w' => Below w3.heap.size w3 w') [[], [0], [], [2], [3], [1, 4]] (Fact.lit _ :: Fact.lit _ :: Fact.lit _ :: Fact.prop _ _ :: Fact.lit _ :: Fact.lit _ :: []) (by kernel_rfl) rfl (by kernel_rfl) (Below.refl _ _).drew ?seqsix
  case' seqsix => skip
  (first | (refine' grow_skip rfl ?wt4 ?put4 ?next4; (case wt4 => rfl)) | (refine' grow_lit rfl ?wt4 ?run4 ?put4 ?next4; (case wt4 => rfl); (case run4 => (intro w' hS H; clear H; clear hS; go_simp; first | done | exact rfl)))); (case put4 => (simp only [Act.put, List.setIfInBounds_toArray, List.set_cons_zero, List.set_cons_succ]; first | done | exact rfl)); (case' next4 => skip)
  (refine' grow_lit rfl ?wtL3 ?runL3 ?putL3 ?nextL3; (case wtL3 => rfl); (case runL3 => (intro w' hS H; (have q := text_of ((S.out.below hS).s) KT.out); clear H hS; go_simp; first | done | exact rfl)); (case putL3 => (simp only [Act.put, List.setIfInBounds_toArray, List.set_cons_zero, List.set_cons_succ]; first | done | exact rfl)); (case' nextL3 => skip))
  (first | (refine' grow_skip rfl ?wt5 ?put5 ?next5; (case wt5 => rfl)) | (refine' grow_lit rfl ?wt5 ?run5 ?put5 ?next5; (case wt5 => rfl); (case run5 => (intro w' hS H; clear H; clear hS; go_simp; first | done | exact rfl)))); (case put5 => (simp only [Act.put, List.setIfInBounds_toArray, List.set_cons_zero, List.set_cons_succ]; first | done | exact rfl)); (case' next5 => skip)
  (refine' grow_callP (p := fun v w => U8s w v (sumB l)) (hp := fun v w w' h hb => U8s.below h hb) rfl Tryd.func22 (by kernel_rfl) rfl hGS rfl ?wt46 ?run46 ?put46 ?next46; (case wt46 => rfl); (case run46 => (intro w' hS H; exact (rsum8_any _ l w' (HV.out.keep (bOn B.out hS)).s HIN.out).mono (fun e w2 ⟨v, z, h1, h2, h3, h4⟩ => ⟨v, h1, ⟨z, h2⟩, h4⟩))); (case put46 => (intro v; simp only [Act.put, List.setIfInBounds_toArray, List.set_cons_zero, List.set_cons_succ]; first | done | exact rfl)); (case' next46 => intro v3))
  (refine' grow_lit rfl ?wtL4 ?runL4 ?putL4 ?nextL4; (case wtL4 => rfl); (case runL4 => (intro w' hS H; (have h3 : U8s w' v3 (sumB l) := H 3 (by decide)); (have q := text_of h3 KT.out); clear H hS; go_simp; first | done | exact rfl)); (case putL4 => (simp only [Act.put, List.setIfInBounds_toArray, List.set_cons_zero, List.set_cons_succ]; first | done | exact rfl)); (case' nextL4 => skip))
  (first | (refine' grow_skip rfl ?wt6 ?put6 ?next6; (case wt6 => rfl)) | (refine' grow_lit rfl ?wt6 ?run6 ?put6 ?next6; (case wt6 => rfl); (case run6 => (intro w' hS H; clear H; clear hS; go_simp; first | done | exact rfl)))); (case put6 => (simp only [Act.put, List.setIfInBounds_toArray, List.set_cons_zero, List.set_cons_succ]; first | done | exact rfl)); (case' next6 => skip)
  intro w4 hb _
  have hz4 := Lib.hid hb.size
  have B_ := Lib.hid (bOn B.out hb)
  have S_ := Lib.hid (S.out.below hb)
  clear hb hGS B S
  have B := B_
  clear B_
  have S := S_
  clear S_
  obtain ⟨b5, c5, w5, hr, hrow, hc5, hd5, hg5, hb⟩ := copyB (w4.alloc (.cells #[] 5)) (.slice (some ⟨xb, ob, none⟩) l.length c0) l (HV.out.keep (bOn B.out (below_new8 _))).s (by omega) hne w4.heap.size
  have HR := Lib.hid hr
  have RB := Lib.hid hrow
  have hgs : (w4.alloc (.cells #[] 5)).heap.size = w4.heap.size + 1 := by simp
  have zg5 : w.heap.size ≤ b5 := by have h1 := B.out.size; omega
  have zs5 : w3.heap.size ≤ b5 := by have h1 := hz4.out; omega
  have hzc5 := Lib.hid hb.size
  clear hgs
  have S5 := Lib.hid ((S.out.below (below_new8 (.cells #[] 5))).below hb)
  have B5 := Lib.hid (bOn (bOn B.out (below_new8 _)) hb)
  have x0 := RB.out.cell 0 hk
  have x1 := RB.out.free 0
  clear hr hrow hb B S
  go_wp2_with (at_builtin; refine wpList_append_run (by rfl) _ _ _ rfl _ _ _ rfl rfl HR.out ?_)
  clear x0 x1 HR
  obtain ⟨W, hW⟩ := named (w5.setCell ⟨b5, 0, none⟩ (.int .u8 C))
  rw [← hW]
  have RX : Hid (RowB W b5 (l.set 0 C)) := by rw [hW]; exact Lib.hid (RB.out.set _ _)
  have hbt : But b5 w5 W := by rw [hW]; exact (But.refl _ _).setCell _ _
  have B := Lib.hid (bOnB B5.out hbt zg5)
  have S := Lib.hid (S5.out.but hbt zs5)
  have zW := Lib.hid hbt.size
  clear hW hbt RB B5 S5
  have hGS : Grows (fun w' => Below W.heap.size W w') := Grows.below W
  refine' wp_growL _ (fun w' => Below W.heap.size W w') [[], [0], [1], [], [3], [2, 4], [], [], [], [7, 8], [9], [6, 10], [5, 11]] (Fact.lit _ :: Fact.prop _ _ :: Fact.lit _ :: Fact.lit _ :: Fact.lit _ :: Fact.lit _ :: Fact.lit _ :: Fact.lit _ :: Fact.lit _ :: Fact.lit _ :: Fact.lit _ :: Fact.lit _ :: Fact.lit _ :: []) (by kernel_rfl) rfl (by kernel_rfl) (Below.refl _ _).drew ?seqthr
  case' seqthr => skip
  (first | (refine' grow_skip rfl ?wt7 ?put7 ?next7; (case wt7 => rfl)) | (refine' grow_lit rfl ?wt7 ?run7 ?put7 ?next7; (case wt7 => rfl); (case run7 => (intro w' hS H; clear H; (have g := HC.out w' (bOn B.out hS)); clear hS; go_simp; first | done | exact rfl)))); (case put7 => (simp only [Act.put, List.setIfInBounds_toArray, List.set_cons_zero, List.set_cons_succ]; first | done | exact rfl)); (case' next7 => skip)
  (refine' grow_callP (p := fun v w => U8s w v (sumB (l.set 0 C))) (hp := fun v w w' h hb => U8s.below h hb) rfl Tryd.func21 (by kernel_rfl) rfl hGS rfl ?wt47 ?run47 ?put47 ?next47; (case wt47 => rfl); (case run47 => (intro w' hS H; exact (wsum_any _ (l.set 0 C) w' ((RX.out.below hS).u8s (by simpa using hc5) hd5 (by simp)) HSI.out).mono (fun e w2 ⟨v, z, h1, h2, h3, h4⟩ => ⟨v, h1, ⟨z, h2⟩, h4⟩))); (case put47 => (intro v; simp only [Act.put, List.setIfInBounds_toArray, List.set_cons_zero, List.set_cons_succ]; first | done | exact rfl)); (case' next47 => intro v1))
  (refine' grow_lit rfl ?wtL5 ?runL5 ?putL5 ?nextL5; (case wtL5 => rfl); (case runL5 => (intro w' hS H; (have h3 : U8s w' v1 (sumB (l.set 0 C)) := H 1 (by decide)); (have q := text_of h3 KX.out); clear H hS; go_simp; first | done | exact rfl)); (case putL5 => (simp only [Act.put, List.setIfInBounds_toArray, List.set_cons_zero, List.set_cons_succ]; first | done | exact rfl)); (case' nextL5 => skip))
  (first | (refine' grow_skip rfl ?wt8 ?put8 ?next8; (case wt8 => rfl)) | (refine' grow_lit rfl ?wt8 ?run8 ?put8 ?next8; (case wt8 => rfl); (case run8 => (intro w' hS H; clear H; (have g := HC.out w' (bOn B.out hS)); clear hS; go_simp; first | done | exact rfl)))); (case put8 => (simp only [Act.put, List.setIfInBounds_toArray, List.set_cons_zero, List.set_cons_succ]; first | done | exact rfl)); (case' next8 => skip)
  (refine' grow_lit rfl ?wtL6 ?runL6 ?putL6 ?nextL6; (case wtL6 => rfl); (case runL6 => (intro w' hS H; (have q := text_of (S.out.below hS).s KT.out); clear H hS; go_simp; first | done | exact rfl)); (case putL6 => (simp only [Act.put, List.setIfInBounds_toArray, List.set_cons_zero, List.set_cons_succ]; first | done | exact rfl)); (case' nextL6 => skip))
  (first | (refine' grow_skip rfl ?wt9 ?put9 ?next9; (case wt9 => rfl)) | (refine' grow_lit rfl ?wt9 ?run9 ?put9 ?next9; (case wt9 => rfl); (case run9 => (intro w' hS H; clear H; (have g := HC.out w' (bOn B.out hS)); clear hS; go_simp; first | done | exact rfl)))); (case put9 => (simp only [Act.put, List.setIfInBounds_toArray, List.set_cons_zero, List.set_cons_succ]; first | done | exact rfl)); (case' next9 => skip)
  (first | (refine' grow_skip rfl ?wt10 ?put10 ?next10; (case wt10 => rfl)) | (refine' grow_lit rfl ?wt10 ?run10 ?put10 ?next10; (case wt10 => rfl); (case run10 => (intro w' hS H; clear H; (have g := HC.out w' (bOn B.out hS)); clear hS; go_simp; first | done | exact rfl)))); (case put10 => (simp only [Act.put, List.setIfInBounds_toArray, List.set_cons_zero, List.set_cons_succ]; first | done | exact rfl)); (case' next10 => skip)
  (first | (refine' grow_skip rfl ?wt11 ?put11 ?next11; (case wt11 => rfl)) | (refine' grow_lit rfl ?wt11 ?run11 ?put11 ?next11; (case wt11 => rfl); (case run11 => (intro w' hS H; clear H; (have g := HC.out w' (bOn B.out hS)); clear hS; go_simp; first | done | exact rfl)))); (case put11 => (simp only [Act.put, List.setIfInBounds_toArray, List.set_cons_zero, List.set_cons_succ]; first | done | exact rfl)); (case' next11 => skip)
  (first | (refine' grow_skip rfl ?wt12 ?put12 ?next12; (case wt12 => rfl)) | (refine' grow_lit rfl ?wt12 ?run12 ?put12 ?next12; (case wt12 => rfl); (case run12 => (intro w' hS H; clear H; (have g := HC.out w' (bOn B.out hS)); clear hS; go_simp; first | done | exact rfl)))); (case put12 => (simp only [Act.put, List.setIfInBounds_toArray, List.set_cons_zero, List.set_cons_succ]; first | done | exact rfl)); (case' next12 => skip)
  (first | (refine' grow_skip rfl ?wt13 ?put13 ?next13; (case wt13 => rfl)) | (refine' grow_lit rfl ?wt13 ?run13 ?put13 ?next13; (case wt13 => rfl); (case run13 => (intro w' hS H; clear H; (have g := HC.out w' (bOn B.out hS)); clear hS; go_simp; first | done | exact rfl)))); (case put13 => (simp only [Act.put, List.setIfInBounds_toArray, List.set_cons_zero, List.set_cons_succ]; first | done | exact rfl)); (case' next13 => skip)
  (first | (refine' grow_skip rfl ?wt14 ?put14 ?next14; (case wt14 => rfl)) | (refine' grow_lit rfl ?wt14 ?run14 ?put14 ?next14; (case wt14 => rfl); (case run14 => (intro w' hS H; clear H; (have g := HC.out w' (bOn B.out hS)); clear hS; go_simp; first | done | exact rfl)))); (case put14 => (simp only [Act.put, List.setIfInBounds_toArray, List.set_cons_zero, List.set_cons_succ]; first | done | exact rfl)); (case' next14 => skip)
  (first | (refine' grow_skip rfl ?wt15 ?put15 ?next15; (case wt15 => rfl)) | (refine' grow_lit rfl ?wt15 ?run15 ?put15 ?next15; (case wt15 => rfl); (case run15 => (intro w' hS H; clear H; (have g := HC.out w' (bOn B.out hS)); clear hS; go_simp; first | done | exact rfl)))); (case put15 => (simp only [Act.put, List.setIfInBounds_toArray, List.set_cons_zero, List.set_cons_succ]; first | done | exact rfl)); (case' next15 => skip)
  (first | (refine' grow_skip rfl ?wt16 ?put16 ?next16; (case wt16 => rfl)) | (refine' grow_lit rfl ?wt16 ?run16 ?put16 ?next16; (case wt16 => rfl); (case run16 => (intro w' hS H; clear H; (have g := HC.out w' (bOn B.out hS)); clear hS; go_simp; first | done | exact rfl)))); (case put16 => (simp only [Act.put, List.setIfInBounds_toArray, List.set_cons_zero, List.set_cons_succ]; first | done | exact rfl)); (case' next16 => skip)
  intro w6 hb _
  have hz6 := Lib.hid hb.size
  have B_ := Lib.hid (bOn B.out hb)
  have S_ := Lib.hid (S.out.below hb)
  clear hb hGS B S RX
  have B := B_
  clear B_
  have S := S_
  clear S_
  go_wp2_with fail
  go_ret
  exact ⟨rfl, B.out⟩

set_option maxHeartbeats 8000000 in
set_option maxRecDepth 100000 in
theorem sums_main (v : Value) (l : List Int) (T C : Int) (w : World) (hg : ErrT w) (hv : U8s w v l) (hin : In8 l) (hl : l.length ≤ 400) (k : Nat) (hk : k < l.length) (hkT : T.tmod (l.length : Int) = k) (hC : 0 ≤ C ∧ C ≤ 255) (hT : 0 ≤ T ∧ T ≤ 65535) (hk0 : ¬ k = 0) :
    Calls Tryd.prog 4 #[v, .int .u16 T, .int .u8 C] w fun e w' => e = .returned (.bool true) ∧ Below w.heap.size w w' := by
  obtain ⟨p0, c0, rfl⟩ : ∃ q c, v = .slice q l.length c := by obtain ⟨x, h⟩ := hv; exact h.shape
  have d1 : decide ((400 : Int) < (l.length : Int)) = false := decide_eq_false (by omega)
  have HIN := Lib.hid hin
  have HV := Lib.hid (OldB.of hv)
  have hne : ¬ l = [] := fun h => by subst h; simp at hk
  obtain ⟨xb, ob, rfl, hxl, hcell⟩ : ∃ xb ob, p0 = some ⟨xb, ob, none⟩ ∧ xb < w.heap.size ∧ ∀ i (h : i < l.length), w.cell? ⟨xb, ob + i, none⟩ = some (.int .u8 l[i]) := by
    obtain ⟨x, h⟩ := hv
    rcases h with ⟨h, -⟩ | ⟨-, o, c, -, -, e, hx, hc⟩
    · exact absurd h hne
    · injection e with e1 _ _
      exact ⟨x, o, e1, hx, hc⟩
  have hlp : ¬ (l.length : Int) = 0 := by omega
  have d0 : ((l.length : Int) == 0) = false := beq_eq_false_iff_ne.2 hlp
  have d2 : (((k : Nat) : Int) == 0) = false := beq_eq_false_iff_ne.2 (by omega)
  obtain ⟨K, hK⟩ : ∃ K, l[k] = K := ⟨_, rfl⟩
  have HK := Lib.hid hK
  have HC : Hid (∀ w', Below w.heap.size w w' → w'.cell? ⟨xb, ob + k, none⟩ = some (.int .u8 K)) := Lib.hid (fun w' hb => (hb.cell (p := ⟨xb, ob + k, none⟩) hxl).trans (by rw [hcell k hk, hK]))
  obtain ⟨D, hD⟩ : ∃ D, decide (C = K) = D := ⟨_, rfl⟩
  obtain ⟨TX, hTX⟩ : ∃ s, strOfNums (sumB (l.set k C)) = s := ⟨_, rfl⟩
  have KX := Lib.hid hTX
  have e1 : (TX.toList == (strOfNums (sumB l)).toList) = D := by
    rw [← hTX, text_inj (sumB_in8 _) (sumB_in8 _), ← hD, ← hK]
    exact decide_eq_decide.2 (sum_turned hin hk hC)
  have e2 : (C == K) = D := by rw [← hD]; exact beq_is _ _
  have HSI : Hid (In8 (l.set k C)) := Lib.hid (fun x hx => by rcases List.mem_or_eq_of_mem_set hx with h | rfl; exact hin x h; exact hC)
  obtain ⟨J, hJ⟩ : ∃ J : Nat, k = J + 1 := ⟨k - 1, by omega⟩
  subst hJ
  have hw1 : IntKind.i64.wrap (((J + 1 : Nat) : Int) - 1) = J := by simp [IntKind.wrap, IntKind.bits, IntKind.signed]; omega
  have hJ : J < l.length := by omega
  have hw2 : IntKind.i64.wrap (J : Int) = J := by simp [IntKind.wrap, IntKind.bits, IntKind.signed]; omega
  have i0 : (0 : Int) ≤ (J : Int) + 1 := by omega
  have i1 : (J : Int) + 1 < (l.length : Int) := by omega
  have i2 : (J : Int) < (l.length : Int) := by omega
  obtain ⟨L, hL⟩ : ∃ L, l[J] = L := ⟨_, rfl⟩
  have HL := Lib.hid hL
  have HD : Hid (∀ w', Below w.heap.size w w' → w'.cell? ⟨xb, ob + J, none⟩ = some (.int .u8 L)) := Lib.hid (fun w' hb => (hb.cell (p := ⟨xb, ob + J, none⟩) hxl).trans (by rw [hcell J hJ, hL]))
  obtain ⟨D2, hD2⟩ : ∃ D, decide (L = K) = D := ⟨_, rfl⟩
  obtain ⟨TY, hTY⟩ : ∃ s, strOfNums (sumB (swapL l J L K)) = s := ⟨_, rfl⟩
  have KY := Lib.hid hTY
  have e3 : (TY.toList == (strOfNums (sumB l)).toList) = D2 := by
    rw [← hTY, text_inj (sumB_in8 _) (sumB_in8 _), ← hD2, ← hK, ← hL]
    exact decide_eq_decide.2 (sum_swapped hin hk)
  have e4 : (L == K) = D2 := by rw [← hD2]; exact beq_is _ _
  have HYI : Hid (In8 (swapL l J L K)) := Lib.hid (by
    rw [swap_split hk]
    exact (hin.take J).append (In8.cons (hK ▸ hin.at _ hk) (In8.cons (hL ▸ hin.at _ hJ) (hin.drop _))))
  clear hK hD hTX hcell hL hD2 hTY
  obtain ⟨TS, hTS⟩ : ∃ s, strOfNums (sumB l) = s := ⟨_, rfl⟩
  have KT := Lib.hid hTS
  rw [hTS] at e1 e3
  clear hin hv hTS
  go_enter Tryd.func4, Tryd.ntmps4
  go_wp2_with fail
  have B_0 := Lib.hid (Below.refl w.heap.size w)
  have HG := Lib.hid hg
  clear hg
  refine (known4_any _ HG.out).mono ?_
  rintro ev w1 ⟨rfl, hb⟩
  have B_1 := Lib.hid (bOn B_0.out hb)
  clear hb B_0
  obtain ⟨b2, c2, w2, hr, hrow, hc2, hd2, hg2, hb⟩ := copyB (w1.alloc (.cells #[] 5)) (.slice (some ⟨xb, ob, none⟩) l.length c0) l (HV.out.keep (bOn B_1.out (below_new8 _))).s (by omega) hne w1.heap.size
  have HR := Lib.hid hr
  have RB := Lib.hid hrow
  have hgs : (w1.alloc (.cells #[] 5)).heap.size = w1.heap.size + 1 := by simp
  have zg2 : w.heap.size ≤ b2 := by have h1 := B_1.out.size; omega
  have hzc2 := Lib.hid hb.size
  clear hgs
  have B2 := Lib.hid (bOn (bOn B_1.out (below_new8 _)) hb)
  clear hr hrow hb B_1
  go_wp2_with (at_builtin; refine wpList_append_run (by rfl) _ _ _ rfl _ _ _ rfl rfl HR.out ?_)
  refine (wsum_any _ l _ (RB.out.u8s hc2 hd2 rfl) HIN.out).mono ?_
  rintro ev w3 ⟨v3, x3, rfl, h3, -, hb⟩
  have S := Lib.hid (OldB.of (show U8s w3 v3 (sumB l) from ⟨x3, h3⟩))
  have B := Lib.hid (bOn B2.out hb)
  clear h3 hb B2 HR RB hg2 zg2 hc2 hd2 hzc2
  go_wp2_with fail
  have hGS : Grows (fun w' => Below w3.heap.size w3 w') := Grows.below w3
  refine' wp_growL _ (fun w' => Below w3.heap.size w3 w') [[], [0], [], [2], [3], [1, 4]] (Fact.lit _ :: Fact.lit _ :: Fact.lit _ :: Fact.prop _ _ :: Fact.lit _ :: Fact.lit _ :: []) (by kernel_rfl) rfl (by kernel_rfl) (Below.refl _ _).drew ?seqsix
  case' seqsix => skip
  (first | (refine' grow_skip rfl ?wt17 ?put17 ?next17; (case wt17 => rfl)) | (refine' grow_lit rfl ?wt17 ?run17 ?put17 ?next17; (case wt17 => rfl); (case run17 => (intro w' hS H; clear H; clear hS; go_simp; first | done | exact rfl)))); (case put17 => (simp only [Act.put, List.setIfInBounds_toArray, List.set_cons_zero, List.set_cons_succ]; first | done | exact rfl)); (case' next17 => skip)
  (refine' grow_lit rfl ?wtL7 ?runL7 ?putL7 ?nextL7; (case wtL7 => rfl); (case runL7 => (intro w' hS H; (have q := text_of ((S.out.below hS).s) KT.out); clear H hS; go_simp; first | done | exact rfl)); (case putL7 => (simp only [Act.put, List.setIfInBounds_toArray, List.set_cons_zero, List.set_cons_succ]; first | done | exact rfl)); (case' nextL7 => skip))
  (first | (refine' grow_skip rfl ?wt18 ?put18 ?next18; (case wt18 => rfl)) | (refine' grow_lit rfl ?wt18 ?run18 ?put18 ?next18; (case wt18 => rfl); (case run18 => (intro w' hS H; clear H; clear hS; go_simp; first | done | exact rfl)))); (case put18 => (simp only [Act.put, List.setIfInBounds_toArray, List.set_cons_zero, List.set_cons_succ]; first | done | exact rfl)); (case' next18 => skip)
  (refine' grow_callP (p := fun v w => U8s w v (sumB l)) (hp := fun v w w' h hb => U8s.below h hb) rfl Tryd.func22 (by kernel_rfl) rfl hGS rfl ?wt48 ?run48 ?put48 ?next48; (case wt48 => rfl); (case run48 => (intro w' hS H; exact (rsum8_any _ l w' (HV.out.keep (bOn B.out hS)).s HIN.out).mono (fun e w2 ⟨v, z, h1, h2, h3, h4⟩ => ⟨v, h1, ⟨z, h2⟩, h4⟩))); (case put48 => (intro v; simp only [Act.put, List.setIfInBounds_toArray, List.set_cons_zero, List.set_cons_succ]; first | done | exact rfl)); (case' next48 => intro v3))
  (refine' grow_lit rfl ?wtL8 ?runL8 ?putL8 ?nextL8; (case wtL8 => rfl); (case runL8 => (intro w' hS H; (have h3 : U8s w' v3 (sumB l) := H 3 (by decide)); (have q := text_of h3 KT.out); clear H hS; go_simp; first | done | exact rfl)); (case putL8 => (simp only [Act.put, List.setIfInBounds_toArray, List.set_cons_zero, List.set_cons_succ]; first | done | exact rfl)); (case' nextL8 => skip))
  (first | (refine' grow_skip rfl ?wt19 ?put19 ?next19; (case wt19 => rfl)) | (refine' grow_lit rfl ?wt19 ?run19 ?put19 ?next19; (case wt19 => rfl); (case run19 => (intro w' hS H; clear H; clear hS; go_simp; first | done | exact rfl)))); (case put19 => (simp only [Act.put, List.setIfInBounds_toArray, List.set_cons_zero, List.set_cons_succ]; first | done | exact rfl)); (case' next19 => skip)
  intro w4 hb _
  have hz4 := Lib.hid hb.size
  have B_ := Lib.hid (bOn B.out hb)
  have S_ := Lib.hid (S.out.below hb)
  clear hb hGS B S
  have B := B_
  clear B_
  have S := S_
  clear S_
  obtain ⟨b5, c5, w5, hr, hrow, hc5, hd5, hg5, hb⟩ := copyB (w4.alloc (.cells #[] 5)) (.slice (some ⟨xb, ob, none⟩) l.length c0) l (HV.out.keep (bOn B.out (below_new8 _))).s (by omega) hne w4.heap.size
  have HR := Lib.hid hr
  have RB := Lib.hid hrow
  have hgs : (w4.alloc (.cells #[] 5)).heap.size = w4.heap.size + 1 := by simp
  have zg5 : w.heap.size ≤ b5 := by have h1 := B.out.size; omega
  have zs5 : w3.heap.size ≤ b5 := by have h1 := hz4.out; omega
  have hzc5 := Lib.hid hb.size
  clear hgs
  have S5 := Lib.hid ((S.out.below (below_new8 (.cells #[] 5))).below hb)
  have B5 := Lib.hid (bOn (bOn B.out (below_new8 _)) hb)
  have x0 := RB.out.cell (J + 1) hk
  have x1 := RB.out.free (J + 1)
  clear hr hrow hb B S
  go_wp2_with (at_builtin; refine wpList_append_run (by rfl) _ _ _ rfl _ _ _ rfl rfl HR.out ?_)
  clear x0 x1 HR
  obtain ⟨W, hW⟩ := named (w5.setCell ⟨b5, (J + 1), none⟩ (.int .u8 C))
  rw [← hW]
  have RX : Hid (RowB W b5 (l.set (J + 1) C)) := by rw [hW]; exact Lib.hid (RB.out.set _ _)
  have hbt : But b5 w5 W := by rw [hW]; exact (But.refl _ _).setCell _ _
  have B := Lib.hid (bOnB B5.out hbt zg5)
  have S := Lib.hid (S5.out.but hbt zs5)
  have zW := Lib.hid hbt.size
  clear hW hbt RB B5 S5
  have hGS : Grows (fun w' => Below W.heap.size W w') := Grows.below W
  refine' wp_growL _ (fun w' => Below W.heap.size W w') [[], [0], [1], [], [3], [2, 4], [], [], [], [7, 8], [9], [6, 10], [5, 11]] (Fact.lit _ :: Fact.prop _ _ :: Fact.lit _ :: Fact.lit _ :: Fact.lit _ :: Fact.lit _ :: Fact.lit _ :: Fact.lit _ :: Fact.lit _ :: Fact.lit _ :: Fact.lit _ :: Fact.lit _ :: Fact.lit _ :: []) (by kernel_rfl) rfl (by kernel_rfl) (Below.refl _ _).drew ?seqthr
  case' seqthr => skip
  (first | (refine' grow_skip rfl ?wt20 ?put20 ?next20; (case wt20 => rfl)) | (refine' grow_lit rfl ?wt20 ?run20 ?put20 ?next20; (case wt20 => rfl); (case run20 => (intro w' hS H; clear H; (have g := HC.out w' (bOn B.out hS)); clear hS; go_simp; first | done | exact rfl)))); (case put20 => (simp only [Act.put, List.setIfInBounds_toArray, List.set_cons_zero, List.set_cons_succ]; first | done | exact rfl)); (case' next20 => skip)
  (refine' grow_callP (p := fun v w => U8s w v (sumB (l.set (J + 1) C))) (hp := fun v w w' h hb => U8s.below h hb) rfl Tryd.func21 (by kernel_rfl) rfl hGS rfl ?wt49 ?run49 ?put49 ?next49; (case wt49 => rfl); (case run49 => (intro w' hS H; exact (wsum_any _ (l.set (J + 1) C) w' ((RX.out.below hS).u8s (by simpa using hc5) hd5 (by simp)) HSI.out).mono (fun e w2 ⟨v, z, h1, h2, h3, h4⟩ => ⟨v, h1, ⟨z, h2⟩, h4⟩))); (case put49 => (intro v; simp only [Act.put, List.setIfInBounds_toArray, List.set_cons_zero, List.set_cons_succ]; first | done | exact rfl)); (case' next49 => intro v1))
  (refine' grow_lit rfl ?wtL9 ?runL9 ?putL9 ?nextL9; (case wtL9 => rfl); (case runL9 => (intro w' hS H; (have h3 : U8s w' v1 (sumB (l.set (J + 1) C)) := H 1 (by decide)); (have q := text_of h3 KX.out); clear H hS; go_simp; first | done | exact rfl)); (case putL9 => (simp only [Act.put, List.setIfInBounds_toArray, List.set_cons_zero, List.set_cons_succ]; first | done | exact rfl)); (case' nextL9 => skip))
  (first | (refine' grow_skip rfl ?wt21 ?put21 ?next21; (case wt21 => rfl)) | (refine' grow_lit rfl ?wt21 ?run21 ?put21 ?next21; (case wt21 => rfl); (case run21 => (intro w' hS H; clear H; (have g := HC.out w' (bOn B.out hS)); clear hS; go_simp; first | done | exact rfl)))); (case put21 => (simp only [Act.put, List.setIfInBounds_toArray, List.set_cons_zero, List.set_cons_succ]; first | done | exact rfl)); (case' next21 => skip)
  (refine' grow_lit rfl ?wtL10 ?runL10 ?putL10 ?nextL10; (case wtL10 => rfl); (case runL10 => (intro w' hS H; (have q := text_of (S.out.below hS).s KT.out); clear H hS; go_simp; first | done | exact rfl)); (case putL10 => (simp only [Act.put, List.setIfInBounds_toArray, List.set_cons_zero, List.set_cons_succ]; first | done | exact rfl)); (case' nextL10 => skip))
  (first | (refine' grow_skip rfl ?wt22 ?put22 ?next22; (case wt22 => rfl)) | (refine' grow_lit rfl ?wt22 ?run22 ?put22 ?next22; (case wt22 => rfl); (case run22 => (intro w' hS H; clear H; (have g := HC.out w' (bOn B.out hS)); clear hS; go_simp; first | done | exact rfl)))); (case put22 => (simp only [Act.put, List.setIfInBounds_toArray, List.set_cons_zero, List.set_cons_succ]; first | done | exact rfl)); (case' next22 => skip)
  (first | (refine' grow_skip rfl ?wt23 ?put23 ?next23; (case wt23 => rfl)) | (refine' grow_lit rfl ?wt23 ?run23 ?put23 ?next23; (case wt23 => rfl); (case run23 => (intro w' hS H; clear H; (have g := HC.out w' (bOn B.out hS)); clear hS; go_simp; first | done | exact rfl)))); (case put23 => (simp only [Act.put, List.setIfInBounds_toArray, List.set_cons_zero, List.set_cons_succ]; first | done | exact rfl)); (case' next23 => skip)
  (first | (refine' grow_skip rfl ?wt24 ?put24 ?next24; (case wt24 => rfl)) | (refine' grow_lit rfl ?wt24 ?run24 ?put24 ?next24; (case wt24 => rfl); (case run24 => (intro w' hS H; clear H; (have g := HC.out w' (bOn B.out hS)); clear hS; go_simp; first | done | exact rfl)))); (case put24 => (simp only [Act.put, List.setIfInBounds_toArray, List.set_cons_zero, List.set_cons_succ]; first | done | exact rfl)); (case' next24 => skip)
  (first | (refine' grow_skip rfl ?wt25 ?put25 ?next25; (case wt25 => rfl)) | (refine' grow_lit rfl ?wt25 ?run25 ?put25 ?next25; (case wt25 => rfl); (case run25 => (intro w' hS H; clear H; (have g := HC.out w' (bOn B.out hS)); clear hS; go_simp; first | done | exact rfl)))); (case put25 => (simp only [Act.put, List.setIfInBounds_toArray, List.set_cons_zero, List.set_cons_succ]; first | done | exact rfl)); (case' next25 => skip)
  (first | (refine' grow_skip rfl ?wt26 ?put26 ?next26; (case wt26 => rfl)) | (refine' grow_lit rfl ?wt26 ?run26 ?put26 ?next26; (case wt26 => rfl); (case run26 => (intro w' hS H; clear H; (have g := HC.out w' (bOn B.out hS)); clear hS; go_simp; first | done | exact rfl)))); (case put26 => (simp only [Act.put, List.setIfInBounds_toArray, List.set_cons_zero, List.set_cons_succ]; first | done | exact rfl)); (case' next26 => skip)
  (first | (refine' grow_skip rfl ?wt27 ?put27 ?next27; (case wt27 => rfl)) | (refine' grow_lit rfl ?wt27 ?run27 ?put27 ?next27; (case wt27 => rfl); (case run27 => (intro w' hS H; clear H; (have g := HC.out w' (bOn B.out hS)); clear hS; go_simp; first | done | exact rfl)))); (case put27 => (simp only [Act.put, List.setIfInBounds_toArray, List.set_cons_zero, List.set_cons_succ]; first | done | exact rfl)); (case' next27 => skip)
  (first | (refine' grow_skip rfl ?wt28 ?put28 ?next28; (case wt28 => rfl)) | (refine' grow_lit rfl ?wt28 ?run28 ?put28 ?next28; (case wt28 => rfl); (case run28 => (intro w' hS H; clear H; (have g := HC.out w' (bOn B.out hS)); clear hS; go_simp; first | done | exact rfl)))); (case put28 => (simp only [Act.put, List.setIfInBounds_toArray, List.set_cons_zero, List.set_cons_succ]; first | done | exact rfl)); (case' next28 => skip)
  (first | (refine' grow_skip rfl ?wt29 ?put29 ?next29; (case wt29 => rfl)) | (refine' grow_lit rfl ?wt29 ?run29 ?put29 ?next29; (case wt29 => rfl); (case run29 => (intro w' hS H; clear H; (have g := HC.out w' (bOn B.out hS)); clear hS; go_simp; first | done | exact rfl)))); (case put29 => (simp only [Act.put, List.setIfInBounds_toArray, List.set_cons_zero, List.set_cons_succ]; first | done | exact rfl)); (case' next29 => skip)
  intro w6 hb _
  have hz6 := Lib.hid hb.size
  have B_ := Lib.hid (bOn B.out hb)
  have S_ := Lib.hid (S.out.below hb)
  clear hb hGS B S RX
  have B := B_
  clear B_
  have S := S_
  clear S_
  have z63 : w3.heap.size ≤ w6.heap.size := by have h1 := hz6.out; have h2 := zW.out; have h3 := hzc5.out; have h4 := hz4.out; have h5 : (w4.alloc (.cells #[] 5)).heap.size = w4.heap.size + 1 := (by simp); omega
  obtain ⟨b7, c7, w7, hr, hrow, hc7, hd7, hg7, hb⟩ := copyB (w6.alloc (.cells #[] 5)) (.slice (some ⟨xb, ob, none⟩) l.length c0) l (HV.out.keep (bOn B.out (below_new8 _))).s (by omega) hne w6.heap.size
  have HR := Lib.hid hr
  have RB := Lib.hid hrow
  have hgs : (w6.alloc (.cells #[] 5)).heap.size = w6.heap.size + 1 := by simp
  have zg7 : w.heap.size ≤ b7 := by have h1 := B.out.size; omega
  have zs7 : w3.heap.size ≤ b7 := by omega
  have hzc7 := Lib.hid hb.size
  clear hgs
  have S7 := Lib.hid ((S.out.below (below_new8 (.cells #[] 5))).below hb)
  have B7 := Lib.hid (bOn (bOn B.out (below_new8 _)) hb)
  have y0 := RB.out.cell J hJ
  have y1 := RB.out.free J
  have y2 := RB.out.cell (J + 1) hk
  have y3 := RB.out.free (J + 1)
  rw [HL.out] at y0
  rw [HK.out] at y2
  have hJc : J < c7 := by omega
  have hkc : J + 1 < c7 := by omega
  clear hr hrow hb B S
  go_wp2_with (at_builtin; refine wpList_append_run (by rfl) _ _ _ rfl _ _ _ rfl rfl HR.out ?_)
  go_region
  clear y0 y1 y2 y3 HR
  obtain ⟨W, hW⟩ := named ((w7.setCell ⟨b7, J, none⟩ (.int .u8 K)).setCell ⟨b7, J + 1, none⟩ (.int .u8 L)).drew
  rw [← hW]
  have RY : Hid (RowB W b7 (swapL l J L K)) := by rw [hW]; exact Lib.hid ((RB.out.set J K).set (J + 1) L).drew
  have hbt : But b7 w7 W := by rw [hW]; exact (((But.refl _ _).setCell _ _).setCell _ _).drew
  have B := Lib.hid (bOnB B7.out hbt zg7)
  have S := Lib.hid (S7.out.but hbt zs7)
  clear hW hbt RB B7 S7
  go_wp2_with fail
  have hGS : Grows (fun w' => Below W.heap.size W w') := Grows.below W
  refine' wp_growL _ (fun w' => Below W.heap.size W w') [[], [0], [1], [], [3], [2, 4], [], [], [7], [6, 8], [9], [], [], [11, 12], [13], [10, 14], [5, 15], [16]] (Fact.lit _ :: Fact.prop _ _ :: Fact.lit _ :: Fact.lit _ :: Fact.lit _ :: Fact.lit _ :: Fact.lit _ :: Fact.lit _ :: Fact.lit _ :: Fact.lit _ :: Fact.lit _ :: Fact.lit _ :: Fact.lit _ :: Fact.lit _ :: Fact.lit _ :: Fact.lit _ :: Fact.lit _ :: Fact.lit _ :: []) (by kernel_rfl) rfl (by kernel_rfl) (Below.refl _ _).drew ?seqnin
  case' seqnin => skip
  (first | (refine' grow_skip rfl ?wt30 ?put30 ?next30; (case wt30 => rfl)) | (refine' grow_lit rfl ?wt30 ?run30 ?put30 ?next30; (case wt30 => rfl); (case run30 => (intro w' hS H; clear H; (have g := HC.out w' (bOn B.out hS)); (have g2 := HD.out w' (bOn B.out hS)); clear hS; go_simp; first | done | exact rfl)))); (case put30 => (simp only [Act.put, List.setIfInBounds_toArray, List.set_cons_zero, List.set_cons_succ]; first | done | exact rfl)); (case' next30 => skip)
  (refine' grow_callP (p := fun v w => U8s w v (sumB (swapL l J L K))) (hp := fun v w w' h hb => U8s.below h hb) rfl Tryd.func21 (by kernel_rfl) rfl hGS rfl ?wt50 ?run50 ?put50 ?next50; (case wt50 => rfl); (case run50 => (intro w' hS H; exact (wsum_any _ (swapL l J L K) w' ((RY.out.below hS).u8s (by simpa [swapL] using hc7) hd7 (by simp [swapL])) HYI.out).mono (fun e w2 ⟨v, z, h1, h2, h3, h4⟩ => ⟨v, h1, ⟨z, h2⟩, h4⟩))); (case put50 => (intro v; simp only [Act.put, List.setIfInBounds_toArray, List.set_cons_zero, List.set_cons_succ]; first | done | exact rfl)); (case' next50 => intro v1))
  (refine' grow_lit rfl ?wtL11 ?runL11 ?putL11 ?nextL11; (case wtL11 => rfl); (case runL11 => (intro w' hS H; (have h3 : U8s w' v1 (sumB (swapL l J L K)) := H 1 (by decide)); (have q := text_of h3 KY.out); clear H hS; go_simp; first | done | exact rfl)); (case putL11 => (simp only [Act.put, List.setIfInBounds_toArray, List.set_cons_zero, List.set_cons_succ]; first | done | exact rfl)); (case' nextL11 => skip))
  (first | (refine' grow_skip rfl ?wt31 ?put31 ?next31; (case wt31 => rfl)) | (refine' grow_lit rfl ?wt31 ?run31 ?put31 ?next31; (case wt31 => rfl); (case run31 => (intro w' hS H; clear H; (have g := HC.out w' (bOn B.out hS)); (have g2 := HD.out w' (bOn B.out hS)); clear hS; go_simp; first | done | exact rfl)))); (case put31 => (simp only [Act.put, List.setIfInBounds_toArray, List.set_cons_zero, List.set_cons_succ]; first | done | exact rfl)); (case' next31 => skip)
  (refine' grow_lit rfl ?wtL12 ?runL12 ?putL12 ?nextL12; (case wtL12 => rfl); (case runL12 => (intro w' hS H; (have q := text_of (S.out.below hS).s KT.out); clear H hS; go_simp; first | done | exact rfl)); (case putL12 => (simp only [Act.put, List.setIfInBounds_toArray, List.set_cons_zero, List.set_cons_succ]; first | done | exact rfl)); (case' nextL12 => skip))
  (first | (refine' grow_skip rfl ?wt32 ?put32 ?next32; (case wt32 => rfl)) | (refine' grow_lit rfl ?wt32 ?run32 ?put32 ?next32; (case wt32 => rfl); (case run32 => (intro w' hS H; clear H; (have g := HC.out w' (bOn B.out hS)); (have g2 := HD.out w' (bOn B.out hS)); clear hS; go_simp; first | done | exact rfl)))); (case put32 => (simp only [Act.put, List.setIfInBounds_toArray, List.set_cons_zero, List.set_cons_succ]; first | done | exact rfl)); (case' next32 => skip)
  (first | (refine' grow_skip rfl ?wt33 ?put33 ?next33; (case wt33 => rfl)) | (refine' grow_lit rfl ?wt33 ?run33 ?put33 ?next33; (case wt33 => rfl); (case run33 => (intro w' hS H; clear H; (have g := HC.out w' (bOn B.out hS)); (have g2 := HD.out w' (bOn B.out hS)); clear hS; go_simp; first | done | exact rfl)))); (case put33 => (simp only [Act.put, List.setIfInBounds_toArray, List.set_cons_zero, List.set_cons_succ]; first | done | exact rfl)); (case' next33 => skip)
  (first | (refine' grow_skip rfl ?wt34 ?put34 ?next34; (case wt34 => rfl)) | (refine' grow_lit rfl ?wt34 ?run34 ?put34 ?next34; (case wt34 => rfl); (case run34 => (intro w' hS H; clear H; (have g := HC.out w' (bOn B.out hS)); (have g2 := HD.out w' (bOn B.out hS)); clear hS; go_simp; first | done | exact rfl)))); (case put34 => (simp only [Act.put, List.setIfInBounds_toArray, List.set_cons_zero, List.set_cons_succ]; first | done | exact rfl)); (case' next34 => skip)
  (first | (refine' grow_skip rfl ?wt35 ?put35 ?next35; (case wt35 => rfl)) | (refine' grow_lit rfl ?wt35 ?run35 ?put35 ?next35; (case wt35 => rfl); (case run35 => (intro w' hS H; clear H; (have g := HC.out w' (bOn B.out hS)); (have g2 := HD.out w' (bOn B.out hS)); clear hS; go_simp; first | done | exact rfl)))); (case put35 => (simp only [Act.put, List.setIfInBounds_toArray, List.set_cons_zero, List.set_cons_succ]; first | done | exact rfl)); (case' next35 => skip)
  (first | (refine' grow_skip rfl ?wt36 ?put36 ?next36; (case wt36 => rfl)) | (refine' grow_lit rfl ?wt36 ?run36 ?put36 ?next36; (case wt36 => rfl); (case run36 => (intro w' hS H; clear H; (have g := HC.out w' (bOn B.out hS)); (have g2 := HD.out w' (bOn B.out hS)); clear hS; go_simp; first | done | exact rfl)))); (case put36 => (simp only [Act.put, List.setIfInBounds_toArray, List.set_cons_zero, List.set_cons_succ]; first | done | exact rfl)); (case' next36 => skip)
  (first | (refine' grow_skip rfl ?wt37 ?put37 ?next37; (case wt37 => rfl)) | (refine' grow_lit rfl ?wt37 ?run37 ?put37 ?next37; (case wt37 => rfl); (case run37 => (intro w' hS H; clear H; (have g := HC.out w' (bOn B.out hS)); (have g2 := HD.out w' (bOn B.out hS)); clear hS; go_simp; first | done | exact rfl)))); (case put37 => (simp only [Act.put, List.setIfInBounds_toArray, List.set_cons_zero, List.set_cons_succ]; first | done | exact rfl)); (case' next37 => skip)
  (first | (refine' grow_skip rfl ?wt38 ?put38 ?next38; (case wt38 => rfl)) | (refine' grow_lit rfl ?wt38 ?run38 ?put38 ?next38; (case wt38 => rfl); (case run38 => (intro w' hS H; clear H; (have g := HC.out w' (bOn B.out hS)); (have g2 := HD.out w' (bOn B.out hS)); clear hS; go_simp; first | done | exact rfl)))); (case put38 => (simp only [Act.put, List.setIfInBounds_toArray, List.set_cons_zero, List.set_cons_succ]; first | done | exact rfl)); (case' next38 => skip)
  (first | (refine' grow_skip rfl ?wt39 ?put39 ?next39; (case wt39 => rfl)) | (refine' grow_lit rfl ?wt39 ?run39 ?put39 ?next39; (case wt39 => rfl); (case run39 => (intro w' hS H; clear H; (have g := HC.out w' (bOn B.out hS)); (have g2 := HD.out w' (bOn B.out hS)); clear hS; go_simp; first | done | exact rfl)))); (case put39 => (simp only [Act.put, List.setIfInBounds_toArray, List.set_cons_zero, List.set_cons_succ]; first | done | exact rfl)); (case' next39 => skip)
  (first | (refine' grow_skip rfl ?wt40 ?put40 ?next40; (case wt40 => rfl)) | (refine' grow_lit rfl ?wt40 ?run40 ?put40 ?next40; (case wt40 => rfl); (case run40 => (intro w' hS H; clear H; (have g := HC.out w' (bOn B.out hS)); (have g2 := HD.out w' (bOn B.out hS)); clear hS; go_simp; first | done | exact rfl)))); (case put40 => (simp only [Act.put, List.setIfInBounds_toArray, List.set_cons_zero, List.set_cons_succ]; first | done | exact rfl)); (case' next40 => skip)
  (first | (refine' grow_skip rfl ?wt41 ?put41 ?next41; (case wt41 => rfl)) | (refine' grow_lit rfl ?wt41 ?run41 ?put41 ?next41; (case wt41 => rfl); (case run41 => (intro w' hS H; clear H; (have g := HC.out w' (bOn B.out hS)); (have g2 := HD.out w' (bOn B.out hS)); clear hS; go_simp; first | done | exact rfl)))); (case put41 => (simp only [Act.put, List.setIfInBounds_toArray, List.set_cons_zero, List.set_cons_succ]; first | done | exact rfl)); (case' next41 => skip)
  (first | (refine' grow_skip rfl ?wt42 ?put42 ?next42; (case wt42 => rfl)) | (refine' grow_lit rfl ?wt42 ?run42 ?put42 ?next42; (case wt42 => rfl); (case run42 => (intro w' hS H; clear H; (have g := HC.out w' (bOn B.out hS)); (have g2 := HD.out w' (bOn B.out hS)); clear hS; go_simp; first | done | exact rfl)))); (case put42 => (simp only [Act.put, List.setIfInBounds_toArray, List.set_cons_zero, List.set_cons_succ]; first | done | exact rfl)); (case' next42 => skip)
  (first | (refine' grow_skip rfl ?wt43 ?put43 ?next43; (case wt43 => rfl)) | (refine' grow_lit rfl ?wt43 ?run43 ?put43 ?next43; (case wt43 => rfl); (case run43 => (intro w' hS H; clear H; (have g := HC.out w' (bOn B.out hS)); (have g2 := HD.out w' (bOn B.out hS)); clear hS; go_simp; first | done | exact rfl)))); (case put43 => (simp only [Act.put, List.setIfInBounds_toArray, List.set_cons_zero, List.set_cons_succ]; first | done | exact rfl)); (case' next43 => skip)
  (first | (refine' grow_skip rfl ?wt44 ?put44 ?next44; (case wt44 => rfl)) | (refine' grow_lit rfl ?wt44 ?run44 ?put44 ?next44; (case wt44 => rfl); (case run44 => (intro w' hS H; clear H; (have g := HC.out w' (bOn B.out hS)); (have g2 := HD.out w' (bOn B.out hS)); clear hS; go_simp; first | done | exact rfl)))); (case put44 => (simp only [Act.put, List.setIfInBounds_toArray, List.set_cons_zero, List.set_cons_succ]; first | done | exact rfl)); (case' next44 => skip)
  intro w8 hb _
  have hz8 := Lib.hid hb.size
  have B_ := Lib.hid (bOn B.out hb)
  clear hb hGS B S RY
  have B := B_
  clear B_
  go_wp2_with fail
  go_ret
  exact ⟨rfl, B.out⟩

theorem sums_walk (v : Value) (l : List Int) (T C : Int) (w : World) (hg : ErrT w) (hv : U8s w v l) (hin : In8 l) (hT0 : 0 ≤ T) (hT1 : T ≤ 65535) (hC0 : 0 ≤ C) (hC1 : C ≤ 255) :
    Calls Tryd.prog 4 #[v, .int .u16 T, .int .u8 C] w fun e w' => e = .returned (.bool true) ∧ Below w.heap.size w w' := by
  by_cases hl : l.length ≤ 400
  · by_cases h0 : l = []
    · exact sums_none v l T C w hg hv hin hl h0
    · have hp : 0 < l.length := by cases l with
        | nil => exact absurd rfl h0
        | cons _ _ => simp
      have h1 : 0 ≤ T.tmod (l.length : Int) := Int.tmod_nonneg _ hT0
      have h2 : T.tmod (l.length : Int) < (l.length : Int) := Int.tmod_lt_of_pos _ (by omega)
      obtain ⟨k, hk⟩ : ∃ k : Nat, T.tmod (l.length : Int) = k := ⟨(T.tmod (l.length : Int)).toNat, by omega⟩
      by_cases hk0 : k = 0
      · exact sums_first v l T C w hg hv hin hl hp (by rw [hk, hk0]; rfl) ⟨hC0, hC1⟩ ⟨hT0, hT1⟩
      · exact sums_main v l T C w hg hv hin hl k (by omega) hk ⟨hC0, hC1⟩ ⟨hT0, hT1⟩ hk0
  · exact sums_long v l T C w hg hv hl

set_option maxRecDepth 100000 in
theorem wireSums_walks : Walks laidAll 4 Tryd.f4 := by
  intro H enc W args ds g
  obtain ⟨ps, hA⟩ := g.reads
  obtain ⟨base, hval⟩ := g.okay
  rw [Tryd.params4] at hA hval
  obtain ⟨v0, vs0, d0, ds0, p0, q0, hargs, rfl, rfl, h0, r0⟩ := trodAll_cons hA
  obtain ⟨v1, vs1, d1, ds1, p1, q1, rfl, rfl, rfl, h1, r1⟩ := trodAll_cons r0
  obtain ⟨v2, vs2, d2, ds2, p2, q2, rfl, rfl, rfl, h2, r2⟩ := trodAll_cons r1
  obtain ⟨rfl, rfl, rfl⟩ := trodAll_nil r2
  obtain rfl : args = #[v0, v1, v2] := Array.toList_inj.1 hargs
  obtain ⟨x0, w0, u0⟩ := open_u8s (hval 0 26 v0 rfl rfl) h0
  obtain ⟨x1, rfl, rfl, rfl, w1⟩ := open_int Tryd.underlying24 (hval 1 24 v1 rfl rfl) h1
  obtain ⟨x2, rfl, rfl, rfl, w2⟩ := open_int Tryd.underlying5 (hval 2 5 v2 rfl rfl) h2
  exact sums_walk v0 x0 x1 x2 W (errT_of_laid g.laid) w0 u0 (wfq16 w1).1 (wfq16 w1).2 (wfq8 w2).1 (wfq8 w2).2

theorem wireSums_row : Rows.WireSumsSaid :=
  OpenClaim.holds_of_wide 4 Tryd.f4 rfl rfl rfl rfl rfl rfl rfl ⟨rfl, rfl, rfl, rfl, rfl⟩ rfl rfl rfl rfl rfl (by kernel_rfl) Tryd.func4 (by kernel_rfl)
    (of_decide_eq_true (by kernel_rfl)) (by unfold Func.isWrapper; rw [if_neg (of_decide_eq_false (by kernel_rfl))]; exact ⟨rfl, rfl⟩)
    (fun os started H enc _ => law_lifted (s := Rows.wireSumsSpec) (L := laidAll) Tryd.func4 (by kernel_rfl) rfl (by kernel_rfl)
      (fun H ds hl => by
        rw [Tryd.params4] at hl
        match ds, hl with
        | [_, _, _], _ => exact ⟨rfl, rfl, rfl⟩)
      (by kernel_rfl) os started H enc
      (ChangeSpec.witness_at (enc := enc) (C := Tryd.checked) (os := os) (X := fun w _ => laidMetH Tryd.prog laidAll w) false (laidWorld os) #[.slice none 0 0, .int .u16 0, .int .u8 0] 8 rfl (by kernel_rfl) (by kernel_rfl) (by kernel_rfl) (by kernel_rfl) (by kernel_rfl) (laidWorld_met os _))
      wireSums_walks)

theorem wireSums_card : Rows.WireSumsCardSaid :=
  Claim7.holds_tied_plain_at .later [] laidKindsAll true (Rows.wireSumsCard.stood.harness) true
    wireSums_row (fun _ h => by cases h) (by kernel_rfl) (fun _ h => by cases h) wireSums_row_tie rfl ⟨rfl, rfl⟩ (by kernel_rfl) rfl
    (fun f fn hf hfn => by
      obtain rfl : f = 4 := Option.some.inj ((show Tryd.prog.funcNamed "roundsman/roundsmanlaw4.WireSums" = some 4 by kernel_rfl).symm.trans hf) |>.symm
      obtain rfl : fn = Tryd.f4 := (Option.some.inj (Tryd.func4.symm.trans hfn)).symm
      exact ⟨by kernel_rfl, fun j t ht => by
        rw [Tryd.params4] at ht
        exact stand_all #[26, 24, 5] (by kernel_rfl) j t ht⟩)
    (by kernel_rfl)
#print axioms wireSums_card

end Go.Proofs.YtjicekblfpgkdaaDoor
