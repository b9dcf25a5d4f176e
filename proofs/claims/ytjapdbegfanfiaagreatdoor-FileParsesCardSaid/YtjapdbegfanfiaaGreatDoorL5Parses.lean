/-
  PROVED: any bytes as a net, or why they are none; what is one is told again as just these bytes. For every row of bytes. Conditions: the listed library variable holds what the program's own text lays (the card ties it).
-/
import Derived.Test.YtjapdbegfanfiaaGreatDoorB18
import Derived.Test.YtjapdbegfanfiaaGreatDoorNetIn
import Derived.Test.YtjapdbegfanfiaaGreatDoorB5
import Derived.Test.YtjapdbegfanfiaaGreatDoorLaid2
import Derived.Test.YtjapdbegfanfiaaGreatDoorCards
import Derived.Test.YtjapdbegfanfiaaGreatDoorTie
import Derived.SevenTiedAt
namespace Go.Proofs.YtjapdbegfanfiaaGreatDoor
open Go.ChangeShapes Go.WideShapes Go.ChangeAt Go.RowKit

set_option maxHeartbeats 8000000 in
set_option maxRecDepth 100000 in
theorem parses_long (v : Value) (l : List Int) (w : World) (hg : ErrT w) (hv : U8s w v l) (hl : 70000 < l.length) :
    Calls Tryz.prog 3 #[v] w fun e w' => e = .returned (.bool true) ∧ Below w.heap.size w w' := by
  obtain ⟨p0, c0, rfl⟩ : ∃ q c, v = .slice q l.length c := hv.shape
  have d1 : decide ((70000 : Int) < (l.length : Int)) = true := decide_eq_true (by omega)
  have G_0 := Lib.hid (hg)
  have B_0 := Lib.hid (Below.refl w.heap.size w)
  clear hg hv
  go_enter Tryz.func3, Tryz.ntmps3
  go_wp2_with fail
  refine (known5_any _ G_0.out).mono ?_
  rintro ev w1 ⟨rfl, hb⟩
  have G_1 := Lib.hid (G_0.out.keep hb)
  have B_1 := Lib.hid (bOn B_0.out hb)
  clear hb G_0 B_0 
  go_wp2_with fail
  go_ret
  exact ⟨rfl, B_1.out⟩

set_option maxHeartbeats 8000000 in
set_option maxRecDepth 100000 in
theorem parses_some (v : Value) (l : List Int) (w : World) (hg : ErrT w) (hv : U8s w v l) (hin : In8 l) (hl : ¬ 70000 < l.length) :
    Calls Tryz.prog 3 #[v] w fun e w' => e = .returned (.bool true) ∧ Below w.heap.size w w' := by
  obtain ⟨p0, c0, rfl⟩ : ∃ q c, v = .slice q l.length c := hv.shape
  have d1 : decide ((70000 : Int) < (l.length : Int)) = false := decide_eq_false (by omega)
  have G_0 := Lib.hid (hg)
  have B_0 := Lib.hid (Below.refl w.heap.size w)
  have V_0 := Lib.hid (OldB.of hv)
  have HIN := Lib.hid hin
  obtain ⟨R, hR⟩ : ∃ R, parseF l = R := ⟨_, rfl⟩
  have hsm := parse_small hin
  have hfl := parse_flt l
  have hback : R.2.2 = 0 → encodeF R.1 = (l, fltOK) := fun h0 => by
    have h0' : (parseF l).2.2 = 0 := by rw [hR]; exact h0
    obtain ⟨h1, h2, h3⟩ := file_parse hin h0'
    rw [hR] at h1 h2
    unfold encodeF
    rw [if_neg (by omega), h2, if_neg (by omega)]
  rw [hR] at hsm hfl
  obtain ⟨Rn, Rp, Re⟩ := R
  simp only at hsm hfl hback
  have HR := Lib.hid hR
  have HSM := Lib.hid hsm
  have HFL := Lib.hid hfl
  have HBK := Lib.hid hback
  clear hg hv hin hR hsm hfl hback
  go_enter Tryz.func3, Tryz.ntmps3
  go_wp2_with fail
  refine (known5_any _ G_0.out).mono ?_
  rintro ev w1 ⟨rfl, hb⟩
  have G_1 := Lib.hid (G_0.out.keep hb)
  have B_1 := Lib.hid (bOn B_0.out hb)
  have V_1 := Lib.hid (V_0.out.below hb)
  clear hb G_0 B_0 V_0 
  have hb0 : Below w1.heap.size w1 (w1.alloc (.cells #[] 5)) := below_new8 _
  obtain ⟨xv, w2, z, hrun, hx, -, hbx, -⟩ := copy8 (w1.alloc (.cells #[] 5)) (.slice p0 l.length c0) l (V_1.out.below hb0).s (by omega) w1.heap.size
  have HRUN := Lib.hid hrun
  have hb := hb0.trans (hbx.mono hb0.size)
  have G_2 := Lib.hid (G_1.out.keep hb)
  have B_2 := Lib.hid (bOn B_1.out hb)
  have V_2 := Lib.hid (V_1.out.below hb)
  have X_2 := Lib.hid ((show U8s w2 xv l from ⟨z, hx⟩))
  clear hb hb0 hbx hrun hx G_1 B_1 V_1
  go_wp2_with (at_builtin; refine wpList_append_run rfl _ _ 22 rfl _ _ _ rfl rfl HRUN.out ?_)
  clear HRUN
  refine (vParseV X_2.out HIN.out HR.out).mono ?_
  rintro ev w3 ⟨nv, er, rfl, hn, hf, hb⟩
  obtain ⟨vq, aq, tq, vc, ac, tc, rfl, -⟩ := hn.shape
  have G_3 := Lib.hid (G_2.out.keep hb)
  have B_3 := Lib.hid (bOn B_2.out hb)
  have V_3 := Lib.hid (V_2.out.below hb)
  have X_3 := Lib.hid (X_2.out.below hb)
  have N_3 := Lib.hid (hn)
  have F_3 := Lib.hid (hf)
  clear hb G_2 B_2 V_2 X_2 hn hf
  clear X_3
  obtain ⟨pW3, hpW3⟩ : ∃ p, w3.heap.size = p := ⟨_, rfl⟩
  obtain ⟨W3, hW3⟩ := named (w3.alloc (.cells #[.slice vq Rn.v.length vc, .slice aq Rn.a.length ac, .slice tq Rn.t.length tc] 28))
  have hb : Below w3.heap.size w3 W3 := by rw [hW3]; exact below_new8 _
  have G_4 := Lib.hid (G_3.out.keep hb)
  have B_4 := Lib.hid (bOn B_3.out hb)
  have V_4 := Lib.hid (V_3.out.below hb)
  have N_4 := Lib.hid (N_3.out.below hb)
  have F_4 := Lib.hid (FaultV.below hb F_3.out)
  have K_4 : Hid (Blk W3 pW3 #[.slice vq Rn.v.length vc, .slice aq Rn.a.length ac, .slice tq Rn.t.length tc] 28) := by rw [hW3]; exact Lib.hid (Blk.new _ _ _ _ (by simp [hpW3]))
  go_upto_region 6 with fail
  rw [← hW3]
  clear hb hW3 hpW3 G_3 B_3 V_3 N_3 F_3
  go_wp2_with fail
  refine (rParseV V_4.out.s HIN.out HR.out).mono ?_
  rintro ev w4 ⟨mv, wv, rfl, hm, hw, hb⟩
  obtain ⟨vq2, aq2, tq2, vc2, ac2, tc2, rfl, -⟩ := hm.shape
  obtain ⟨wq, wn, wc, rfl⟩ := hw.shape
  have G_5 := Lib.hid (G_4.out.keep hb)
  have B_5 := Lib.hid (bOn B_4.out hb)
  have V_5 := Lib.hid (V_4.out.below hb)
  have N_5 := Lib.hid (N_4.out.below hb)
  have F_5 := Lib.hid (FaultV.below hb F_4.out)
  have K_5 := Lib.hid (K_4.out.keep hb)
  have M_5 := Lib.hid (hm)
  have W_5 := Lib.hid (hw)
  clear hb G_4 B_4 V_4 N_4 F_4 K_4 hm hw
  obtain ⟨pW4, hpW4⟩ : ∃ p, w4.heap.size = p := ⟨_, rfl⟩
  obtain ⟨W4, hW4⟩ := named ((w4.alloc (.cells #[.slice vq2 Rn.v.length vc2, .slice aq2 Rn.a.length ac2, .slice tq2 Rn.t.length tc2] 37)).alloc (.cells #[.slice wq wn wc, .int .i64 Re] 40))
  have hb : Below w4.heap.size w4 W4 := by rw [hW4]; exact (below_new8 _).trans ((below_new8 _).mono (by simp))
  have G_6 := Lib.hid (G_5.out.keep hb)
  have B_6 := Lib.hid (bOn B_5.out hb)
  have V_6 := Lib.hid (V_5.out.below hb)
  have N_6 := Lib.hid (N_5.out.below hb)
  have F_6 := Lib.hid (FaultV.below hb F_5.out)
  have K_6 := Lib.hid (K_5.out.keep hb)
  have M_6 := Lib.hid (M_5.out.below hb)
  have W_6 := Lib.hid (WrongV.below hb W_5.out)
  have J_6 : Hid (Blk W4 pW4 #[.slice vq2 Rn.v.length vc2, .slice aq2 Rn.a.length ac2, .slice tq2 Rn.t.length tc2] 37) := by rw [hW4]; exact Lib.hid ((Blk.new _ _ _ _ (by simp [hpW4])).old _)
  have L_6 : Hid (Blk W4 (pW4 + 1) #[.slice wq wn wc, .int .i64 Re] 40) := by rw [hW4]; exact Lib.hid (Blk.new _ _ _ _ (by simp [hpW4]))
  go_upto_region 7 with fail
  rw [← hW4]
  clear hb hW4 hpW4 G_5 B_5 V_5 N_5 F_5 K_5 M_5 W_5
  have hGS : Grows (fun w' => Below W4.heap.size W4 w') := Grows.below W4
  refine' wp_growL _ (fun w' => Below W4.heap.size W4 w') [[], [], [0, 1], [2], [3], [4], [4, 5], [4], [4, 6, 7], [4, 8], [4, 9]] (Fact.lit _ :: Fact.lit _ :: Fact.lit _ :: Fact.lit _ :: Fact.lit _ :: Fact.lit _ :: Fact.prop _ _ :: Fact.lit _ :: Fact.lit _ :: Fact.lit _ :: Fact.lit _ :: []) (by kernel_rfl) rfl (by kernel_rfl) (Below.refl _ _).drew ?seqfp
  case' seqfp => skip
  iterate 2 ((first | (apply grow_skip; (case hf => rfl); (case hw => rfl)) | (apply grow_lit; (case hf => rfl); (case hw => rfl); (case hrun => (intro w' hS H; clear H; (obtain ⟨c0, c1, c2, -, -, -⟩ := (K_6.out.keep hS).o3); (obtain ⟨d0, d1, d2, -, -, -⟩ := (J_6.out.keep hS).o3); (obtain ⟨e0, e1, -, -⟩ := (L_6.out.keep hS).o2); clear hS; go_simp; first | done | exact rfl)))); (case hc => (simp only [Act.put, List.setIfInBounds_toArray, List.set_cons_zero, List.set_cons_succ]; first | done | exact rfl)); (try (case hj => rfl)))
  (refine' grow_call (u := .bool true) rfl Tryz.func11 (by kernel_rfl) rfl hGS rfl ?wt21 ?run21 ?put21 ?next21; (case wt21 => rfl); (case run21 => (intro w' hS H; exact tells_post _ _ Rp Re w' (G_6.out.keep hS) (FaultV.below hS F_6.out) (WrongV.below hS W_6.out) HFL.out)); (case put21 => (simp only [Act.put, List.setIfInBounds_toArray, List.set_cons_zero, List.set_cons_succ]; first | done | exact rfl)); (case' next21 => skip))
  iterate 3 ((first | (apply grow_skip; (case hf => rfl); (case hw => rfl)) | (apply grow_lit; (case hf => rfl); (case hw => rfl); (case hrun => (intro w' hS H; clear H; (obtain ⟨c0, c1, c2, -, -, -⟩ := (K_6.out.keep hS).o3); (obtain ⟨d0, d1, d2, -, -, -⟩ := (J_6.out.keep hS).o3); (obtain ⟨e0, e1, -, -⟩ := (L_6.out.keep hS).o2); clear hS; go_simp; first | done | exact rfl)))); (case hc => (simp only [Act.put, List.setIfInBounds_toArray, List.set_cons_zero, List.set_cons_succ]; first | done | exact rfl)); (try (case hj => rfl)))
  (refine' grow_callP (p := fun v w => NetV w v Rn) (hp := fun v w w' h hb => h.below hb) rfl Tryz.func13 (by kernel_rfl) rfl hGS rfl ?wt22 ?run22 ?put22 ?next22; (case wt22 => rfl); (case run22 => (intro w' hS H; exact vOf (N_6.out.below hS) (by have := HSM.out.1.1; omega) (by have := HSM.out.1.2.1; omega) (by have := HSM.out.1.2.2; omega) (fun t ht => by have := HSM.out.2.1 t ht; omega))); (case put22 => (intro v; simp only [Act.put, List.setIfInBounds_toArray, List.set_cons_zero, List.set_cons_succ]; first | done | exact rfl)); (case' next22 => intro v6))
  iterate 1 ((first | (apply grow_skip; (case hf => rfl); (case hw => rfl)) | (apply grow_lit; (case hf => rfl); (case hw => rfl); (case hrun => (intro w' hS H; clear H; (obtain ⟨c0, c1, c2, -, -, -⟩ := (K_6.out.keep hS).o3); (obtain ⟨d0, d1, d2, -, -, -⟩ := (J_6.out.keep hS).o3); (obtain ⟨e0, e1, -, -⟩ := (L_6.out.keep hS).o2); clear hS; go_simp; first | done | exact rfl)))); (case hc => (simp only [Act.put, List.setIfInBounds_toArray, List.set_cons_zero, List.set_cons_succ]; first | done | exact rfl)); (try (case hj => rfl)))
  (refine' grow_call (u := .bool true) rfl Tryz.func12 (by kernel_rfl) rfl hGS rfl ?wt23 ?run23 ?put23 ?next23; (case wt23 => rfl); (case run23 => (intro w' hS H; (have h6 : NetV w' v6 Rn := H 6 (by decide)); exact rvsame h6 (M_6.out.below hS) (by unfold sameN; simp))); (case put23 => (simp only [Act.put, List.setIfInBounds_toArray, List.set_cons_zero, List.set_cons_succ]; first | done | exact rfl)); (case' next23 => skip))
  iterate 2 ((first | (apply grow_skip; (case hf => rfl); (case hw => rfl)) | (apply grow_lit; (case hf => rfl); (case hw => rfl); (case hrun => (intro w' hS H; clear H; (obtain ⟨c0, c1, c2, -, -, -⟩ := (K_6.out.keep hS).o3); (obtain ⟨d0, d1, d2, -, -, -⟩ := (J_6.out.keep hS).o3); (obtain ⟨e0, e1, -, -⟩ := (L_6.out.keep hS).o2); clear hS; go_simp; first | done | exact rfl)))); (case hc => (simp only [Act.put, List.setIfInBounds_toArray, List.set_cons_zero, List.set_cons_succ]; first | done | exact rfl)); (try (case hj => rfl)))
  intro w9 hb _
  have G_7 := Lib.hid (G_6.out.keep hb)
  have B_7 := Lib.hid (bOn B_6.out hb)
  have V_7 := Lib.hid (V_6.out.below hb)
  have N_7 := Lib.hid (N_6.out.below hb)
  have F_7 := Lib.hid (FaultV.below hb F_6.out)
  have K_7 := Lib.hid (K_6.out.keep hb)
  have M_7 := Lib.hid (M_6.out.below hb)
  have W_7 := Lib.hid (WrongV.below hb W_6.out)
  have J_7 := Lib.hid (J_6.out.keep hb)
  have L_7 := Lib.hid (L_6.out.keep hb)
  clear hb hGS G_6 B_6 V_6 N_6 F_6 K_6 M_6 W_6 J_6 L_6
  obtain ⟨e0, e1, -, -⟩ := L_7.out.o2
  obtain ⟨c0', c1', c2', -, -, -⟩ := K_7.out.o3
  by_cases h0 : Re = 0
  · have hRb : (Re != 0) = false := by simp [h0]
    have HE := Lib.hid (HBK.out h0)
    have HNS : Hid (NetSmall Rn) := Lib.hid ⟨HSM.out.1.1, HSM.out.1.2.1, HSM.out.1.2.2⟩
    clear h0
    go_wp2_with fail
    refine (vEncodeV N_7.out HSM.out.2.2 HNS.out HE.out).mono ?_
    rintro ev wa ⟨bv, er2, rfl, hu, hf2, hb⟩
    obtain rfl := FaultV.none hf2
    obtain ⟨TX, hTX⟩ : ∃ s, strOfNums l = s := ⟨_, rfl⟩
    have q1 := text_of hu hTX
    have q2 := text_of (v := .slice p0 l.length c0) (V_7.out.below hb).s hTX
    have HB := Lib.hid (bOn B_7.out hb)
    clear hu hf2 hb hTX
    go_wp2_with fail
    go_ret
    exact ⟨by simp, HB.out⟩
  · have hRb : (Re != 0) = true := by simp [h0]
    clear h0
    go_wp2_with fail
    go_ret
    exact ⟨rfl, B_7.out⟩

theorem parses_any (v : Value) (l : List Int) (w : World) (hg : ErrT w) (hv : U8s w v l) (hin : In8 l) :
    Calls Tryz.prog 3 #[v] w fun e w' => e = .returned (.bool true) ∧ Below w.heap.size w w' := by
  by_cases hl : 70000 < l.length
  · exact parses_long v l w hg hv hl
  · exact parses_some v l w hg hv hin hl

set_option maxRecDepth 100000 in
theorem fileParses_walks : Walks laidAll 3 Tryz.f3 := by
  intro H enc W args ds g
  obtain ⟨ps, hA⟩ := g.reads
  obtain ⟨base, hval⟩ := g.okay
  rw [Tryz.params3] at hA hval
  obtain ⟨v0, vs0, d0, ds0, p0, q0, hargs, rfl, rfl, h0, r0⟩ := trodAll_cons hA
  obtain ⟨rfl, rfl, rfl⟩ := trodAll_nil r0
  obtain rfl : args = #[v0] := Array.toList_inj.1 hargs
  obtain ⟨x0, w0, u0⟩ := open_u8s (hval 0 22 v0 rfl rfl) h0
  exact parses_any v0 x0 W (errT_of_laid g.laid) w0 u0

theorem fileParses_row : Rows.FileParsesSaid :=
  OpenClaim.holds_of_wide 3 Tryz.f3 rfl rfl rfl rfl rfl rfl rfl ⟨rfl, rfl, rfl, rfl, rfl⟩ rfl rfl rfl rfl rfl (by kernel_rfl) Tryz.func3 (by kernel_rfl)
    (of_decide_eq_true (by kernel_rfl)) (by unfold Func.isWrapper; rw [if_neg (of_decide_eq_false (by kernel_rfl))]; exact ⟨rfl, rfl⟩)
    (fun os started H enc _ => law_lifted (s := Rows.fileParsesSpec) (L := laidAll) Tryz.func3 (by kernel_rfl) rfl (by kernel_rfl)
      (fun H ds hl => by
        rw [Tryz.params3] at hl
        match ds, hl with
        | [_], _ => exact ⟨rfl, rfl, rfl⟩)
      (by kernel_rfl) os started H enc
      (ChangeSpec.witness_at (enc := enc) (C := Tryz.checked) (os := os) (X := fun w _ => laidMetH Tryz.prog laidAll w) false (laidWorld os) #[.slice none 0 0] 8 rfl (by kernel_rfl) (by kernel_rfl) (by kernel_rfl) (by kernel_rfl) (by kernel_rfl) (laidWorld_met os _))
      fileParses_walks)

theorem fileParses_card : Rows.FileParsesCardSaid :=
  Claim7.holds_tied_plain_at .later [] laidKindsAll true (Rows.fileParsesCard.stood.harness) true
    fileParses_row (fun _ h => by cases h) (by kernel_rfl) (fun _ h => by cases h) fileParses_row_tie rfl ⟨rfl, rfl⟩ (by kernel_rfl) rfl
    (fun f fn hf hfn => by
      obtain rfl : f = 3 := Option.some.inj ((show Tryz.prog.funcNamed "roundsman/roundsmanlaw5.FileParses" = some 3 by kernel_rfl).symm.trans hf) |>.symm
      obtain rfl : fn = Tryz.f3 := (Option.some.inj (Tryz.func3.symm.trans hfn)).symm
      exact ⟨by kernel_rfl, fun j t ht => by
        rw [Tryz.params3] at ht
        exact stand_all #[22] (by kernel_rfl) j t ht⟩)
    (by kernel_rfl)
#print axioms fileParses_card

end Go.Proofs.YtjapdbegfanfiaaGreatDoor
