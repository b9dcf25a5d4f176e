/-
  PROVED: any net in bytes, or why not; read it is that net. For every net. Conditions: the listed library variable holds what the program's own text lays (the card ties it).
-/
import Derived.Test.YtjapdbegfanfiaaGreatDoorB18
import Derived.Test.YtjapdbegfanfiaaGreatDoorNetIn
import Derived.Test.YtjapdbegfanfiaaGreatDoorB5
import Derived.Test.YtjapdbegfanfiaaGreatDoorLaid2
import Derived.Test.YtjapdbegfanfiaaGreatDoorCards
import Derived.Test.YtjapdbegfanfiaaGreatDoorTie
import Derived.SevenTiedAt
namespace Go.Proofs.YtjapdbegfanfiaaGreatDoor
open Go.ChangeShapes Go.WideShapes Go.ChangeAt Go.RowKit

set_option maxHeartbeats 8000000 in
set_option maxRecDepth 100000 in
theorem encodes_many (v : Value) (n : NetD) (w : World) (hg : ErrT w) (hv : NetV w v n) (hf : fewN n = false) :
    Calls Tryz.prog 4 #[v] w fun e w' => e = .returned (.bool true) ∧ Below w.heap.size w w' := by
  obtain ⟨vq, aq, tq, vc, ac, tc, rfl, -⟩ := hv.shape
  have G_0 := Lib.hid (hg)
  have B_0 := Lib.hid (Below.refl w.heap.size w)
  have V_0 := Lib.hid (hv)
  clear hg hv
  go_enter Tryz.func4, Tryz.ntmps4
  obtain ⟨pW0, hpW0⟩ : ∃ p, w.heap.size = p := ⟨_, rfl⟩
  obtain ⟨W0, hW0⟩ := named (w.alloc (.cells #[.slice vq n.v.length vc, .slice aq n.a.length ac, .slice tq n.t.length tc] 37))
  have hb : Below w.heap.size w W0 := by rw [hW0]; exact below_new8 _
  have G_1 := Lib.hid (G_0.out.keep hb)
  have B_1 := Lib.hid (bOn B_0.out hb)
  have V_1 := Lib.hid (V_0.out.below hb)
  have K_1 : Hid (Blk W0 pW0 #[.slice vq n.v.length vc, .slice aq n.a.length ac, .slice tq n.t.length tc] 37) := by rw [hW0]; exact Lib.hid (Blk.new _ _ _ _ (by simp [hpW0]))
  go_upto_region 1 with fail
  rw [← hW0]
  clear hb hW0 hpW0 G_0 B_0 V_0
  go_wp2_with fail
  refine (known5_any _ G_1.out).mono ?_
  rintro ev w1 ⟨rfl, hb⟩
  have G_2 := Lib.hid (G_1.out.keep hb)
  have B_2 := Lib.hid (bOn B_1.out hb)
  have V_2 := Lib.hid (V_1.out.below hb)
  have K_2 := Lib.hid (K_1.out.keep hb)
  clear hb G_1 B_1 V_1 K_1 
  obtain ⟨k0, k1, k2, -, -, -⟩ := K_2.out.o3
  go_wp2_with fail
  refine (vfew V_2.out hf).mono ?_
  rintro ev w2 ⟨rfl, hb⟩
  have G_3 := Lib.hid (G_2.out.keep hb)
  have B_3 := Lib.hid (bOn B_2.out hb)
  have V_3 := Lib.hid (V_2.out.below hb)
  have K_3 := Lib.hid (K_2.out.keep hb)
  clear hb G_2 B_2 V_2 K_2 k0 k1 k2
  go_wp2_with fail
  go_ret
  exact ⟨rfl, B_3.out⟩

set_option maxHeartbeats 8000000 in
set_option maxRecDepth 100000 in
theorem encodes_few (v : Value) (n : NetD) (w : World) (hg : ErrT w) (hv : NetV w v n) (hin : InNet n) (hf : fewN n = true) :
    Calls Tryz.prog 4 #[v] w fun e w' => e = .returned (.bool true) ∧ Below w.heap.size w w' := by
  obtain ⟨vq, aq, tq, vc, ac, tc, rfl, -⟩ := hv.shape
  have HIN := Lib.hid hin
  have HFW := Lib.hid (few_of hf)
  obtain ⟨R, hR⟩ : ∃ R, encodeF n = R := ⟨_, rfl⟩
  have hfl := encode_flt n
  have hback : R.2.2 = 0 → parseF R.1 = (n, fltOK) ∧ In8 R.1 := fun h0 => by
    rw [← hR] at h0 ⊢
    unfold encodeF at h0 ⊢
    by_cases h1 : (chkN n).2 ≠ 0
    · rw [if_pos h1] at h0; exact absurd h0 h1
    · rw [if_neg h1] at h0 ⊢
      by_cases h2 : 65536 < (fileN n).length
      · rw [if_pos h2] at h0; simp at h0
      · rw [if_neg h2]
        exact ⟨parse_file (by omega) (by omega), fileN_in8 (by omega)⟩
  rw [hR] at hfl
  obtain ⟨Rl, Rp, Re⟩ := R
  simp only at hfl hback
  have HR := Lib.hid hR
  have HFL := Lib.hid hfl
  have HBK := Lib.hid hback
  clear hin hR hfl hback
  have G_0 := Lib.hid (hg)
  have B_0 := Lib.hid (Below.refl w.heap.size w)
  have V_0 := Lib.hid (hv)
  clear hg hv
  go_enter Tryz.func4, Tryz.ntmps4
  obtain ⟨pW0, hpW0⟩ : ∃ p, w.heap.size = p := ⟨_, rfl⟩
  obtain ⟨W0, hW0⟩ := named (w.alloc (.cells #[.slice vq n.v.length vc, .slice aq n.a.length ac, .slice tq n.t.length tc] 37))
  have hb : Below w.heap.size w W0 := by rw [hW0]; exact below_new8 _
  have G_1 := Lib.hid (G_0.out.keep hb)
  have B_1 := Lib.hid (bOn B_0.out hb)
  have V_1 := Lib.hid (V_0.out.below hb)
  have K_1 : Hid (Blk W0 pW0 #[.slice vq n.v.length vc, .slice aq n.a.length ac, .slice tq n.t.length tc] 37) := by rw [hW0]; exact Lib.hid (Blk.new _ _ _ _ (by simp [hpW0]))
  go_upto_region 1 with fail
  rw [← hW0]
  clear hb hW0 hpW0 G_0 B_0 V_0
  go_wp2_with fail
  refine (known5_any _ G_1.out).mono ?_
  rintro ev w1 ⟨rfl, hb⟩
  have G_2 := Lib.hid (G_1.out.keep hb)
  have B_2 := Lib.hid (bOn B_1.out hb)
  have V_2 := Lib.hid (V_1.out.below hb)
  have K_2 := Lib.hid (K_1.out.keep hb)
  clear hb G_1 B_1 V_1 K_1 
  obtain ⟨k0, k1, k2, -, -, -⟩ := K_2.out.o3
  go_wp2_with fail
  refine (vfew V_2.out hf).mono ?_
  rintro ev w2 ⟨rfl, hb⟩
  have G_3 := Lib.hid (G_2.out.keep hb)
  have B_3 := Lib.hid (bOn B_2.out hb)
  have V_3 := Lib.hid (V_2.out.below hb)
  have K_3 := Lib.hid (K_2.out.keep hb)
  clear hb G_2 B_2 V_2 K_2 k0 k1 k2 hf
  obtain ⟨k0, k1, k2, -, -, -⟩ := K_3.out.o3
  go_wp2_with fail
  refine (vtoF V_3.out HFW.out).mono ?_
  rintro ev w3 ⟨tv, rfl, ht, hb⟩
  have G_4 := Lib.hid (G_3.out.keep hb)
  have B_4 := Lib.hid (bOn B_3.out hb)
  have V_4 := Lib.hid (V_3.out.below hb)
  have K_4 := Lib.hid (K_3.out.keep hb)
  have T_4 := Lib.hid (ht)
  clear hb G_3 B_3 V_3 K_3 ht k0 k1 k2
  go_wp2_with fail
  refine (vEncodeV T_4.out HIN.out HFW.out.small HR.out).mono ?_
  rintro ev w4 ⟨bv, er, rfl, hu, hf, hb⟩
  have G_5 := Lib.hid (G_4.out.keep hb)
  have B_5 := Lib.hid (bOn B_4.out hb)
  have V_5 := Lib.hid (V_4.out.below hb)
  have K_5 := Lib.hid (K_4.out.keep hb)
  have T_5 := Lib.hid (T_4.out.below hb)
  have U_5 := Lib.hid (hu)
  have F_5 := Lib.hid (hf)
  clear hb G_4 B_4 V_4 K_4 T_4 hu hf
  clear T_5
  obtain ⟨k0, k1, k2, -, -, -⟩ := K_5.out.o3
  go_wp2_with fail
  refine (rEncodeV V_5.out HIN.out HR.out).mono ?_
  rintro ev w5 ⟨cv, wv, rfl, hu, hw, hb⟩
  obtain ⟨wq, wn, wc, rfl⟩ := hw.shape
  have G_6 := Lib.hid (G_5.out.keep hb)
  have B_6 := Lib.hid (bOn B_5.out hb)
  have V_6 := Lib.hid (V_5.out.below hb)
  have K_6 := Lib.hid (K_5.out.keep hb)
  have U_6 := Lib.hid (U_5.out.below hb)
  have F_6 := Lib.hid (FaultV.below hb F_5.out)
  have C_6 := Lib.hid (hu)
  have W_6 := Lib.hid (hw)
  clear hb G_5 B_5 V_5 K_5 U_5 F_5 hu hw k0 k1 k2
  obtain ⟨pW5, hpW5⟩ : ∃ p, w5.heap.size = p := ⟨_, rfl⟩
  obtain ⟨W5, hW5⟩ := named (w5.alloc (.cells #[.slice wq wn wc, .int .i64 Re] 40))
  have hb : Below w5.heap.size w5 W5 := by rw [hW5]; exact below_new8 _
  have G_7 := Lib.hid (G_6.out.keep hb)
  have B_7 := Lib.hid (bOn B_6.out hb)
  have V_7 := Lib.hid (V_6.out.below hb)
  have K_7 := Lib.hid (K_6.out.keep hb)
  have U_7 := Lib.hid (U_6.out.below hb)
  have F_7 := Lib.hid (FaultV.below hb F_6.out)
  have C_7 := Lib.hid (C_6.out.below hb)
  have W_7 := Lib.hid (WrongV.below hb W_6.out)
  have L_7 : Hid (Blk W5 pW5 #[.slice wq wn wc, .int .i64 Re] 40) := by rw [hW5]; exact Lib.hid (Blk.new _ _ _ _ (by simp [hpW5]))
  go_upto_region 7 with fail
  rw [← hW5]
  clear hb hW5 hpW5 G_6 B_6 V_6 K_6 U_6 F_6 C_6 W_6
  obtain ⟨e0, e1, -, -⟩ := L_7.out.o2
  go_wp2_with fail
  refine (tells_post _ _ Rp Re _ G_7.out F_7.out W_7.out HFL.out).mono ?_
  rintro ev w6 ⟨rfl, hb⟩
  obtain ⟨TX, hTX⟩ : ∃ s, strOfNums Rl = s := ⟨_, rfl⟩
  have q1 := text_of (U_7.out.below hb) hTX
  have q2 := text_of (C_7.out.below hb) hTX
  have G_8 := Lib.hid (G_7.out.keep hb)
  have B_8 := Lib.hid (bOn B_7.out hb)
  have V_8 := Lib.hid (V_7.out.below hb)
  have K_8 := Lib.hid (K_7.out.keep hb)
  have U_8 := Lib.hid (U_7.out.below hb)
  have F_8 := Lib.hid (FaultV.below hb F_7.out)
  have C_8 := Lib.hid (C_7.out.below hb)
  have W_8 := Lib.hid (WrongV.below hb W_7.out)
  have L_8 := Lib.hid (L_7.out.keep hb)
  clear hb G_7 B_7 V_7 K_7 U_7 F_7 C_7 W_7 L_7 e0 e1 hTX
  obtain ⟨e0, e1, -, -⟩ := L_8.out.o2
  by_cases h0 : Re = 0
  · have hRb : (Re != 0) = false := by simp [h0]
    have HE := Lib.hid (HBK.out h0)
    clear h0
    go_wp2_with fail
    clear q1 q2 e0 e1
    refine (vParseV U_8.out HE.out.2 HE.out.1).mono ?_
    rintro ev w7 ⟨nv, er2, rfl, hn, hf, hb⟩
    obtain ⟨vq2, aq2, tq2, vc2, ac2, tc2, rfl, -⟩ := hn.shape
    obtain rfl := FaultV.none hf
    have G_9 := Lib.hid (G_8.out.keep hb)
    have B_9 := Lib.hid (bOn B_8.out hb)
    have V_9 := Lib.hid (V_8.out.below hb)
    have K_9 := Lib.hid (K_8.out.keep hb)
    have U_9 := Lib.hid (U_8.out.below hb)
    have F_9 := Lib.hid (FaultV.below hb F_8.out)
    have C_9 := Lib.hid (C_8.out.below hb)
    have W_9 := Lib.hid (WrongV.below hb W_8.out)
    have L_9 := Lib.hid (L_8.out.keep hb)
    have N_9 := Lib.hid (hn)
    clear hb G_8 B_8 V_8 K_8 U_8 F_8 C_8 W_8 L_8 hn hf
    obtain ⟨pW7, hpW7⟩ : ∃ p, w7.heap.size = p := ⟨_, rfl⟩
    obtain ⟨W7, hW7⟩ := named (w7.alloc (.cells #[.slice vq2 n.v.length vc2, .slice aq2 n.a.length ac2, .slice tq2 n.t.length tc2] 28))
    have hb : Below w7.heap.size w7 W7 := by rw [hW7]; exact below_new8 _
    have G_10 := Lib.hid (G_9.out.keep hb)
    have B_10 := Lib.hid (bOn B_9.out hb)
    have V_10 := Lib.hid (V_9.out.below hb)
    have K_10 := Lib.hid (K_9.out.keep hb)
    have U_10 := Lib.hid (U_9.out.below hb)
    have F_10 := Lib.hid (FaultV.below hb F_9.out)
    have C_10 := Lib.hid (C_9.out.below hb)
    have W_10 := Lib.hid (WrongV.below hb W_9.out)
    have L_10 := Lib.hid (L_9.out.keep hb)
    have N_10 := Lib.hid (N_9.out.below hb)
    have M_10 : Hid (Blk W7 pW7 #[.slice vq2 n.v.length vc2, .slice aq2 n.a.length ac2, .slice tq2 n.t.length tc2] 28) := by rw [hW7]; exact Lib.hid (Blk.new _ _ _ _ (by simp [hpW7]))
    go_upto_region 12 with fail
    rw [← hW7]
    clear hb hW7 hpW7 G_9 B_9 V_9 K_9 U_9 F_9 C_9 W_9 L_9 N_9
    have hGS : Grows (fun w' => Below W7.heap.size W7 w') := Grows.below W7
    refine' wp_growL _ (fun w' => Below W7.heap.size W7 w') [[], [0], [1], [2], [2, 3], [2], [2, 4, 5], [2, 6], [7]] (Fact.lit _ :: Fact.lit _ :: Fact.lit _ :: Fact.lit _ :: Fact.prop _ _ :: Fact.lit _ :: Fact.lit _ :: Fact.lit _ :: Fact.lit _ :: []) (by kernel_rfl) rfl (by kernel_rfl) (Below.refl _ _).drew ?seqfe
    case' seqfe => skip
    iterate 4 ((first | (apply grow_skip; (case hf => rfl); (case hw => rfl)) | (apply grow_lit; (case hf => rfl); (case hw => rfl); (case hrun => (intro w' hS H; clear H; (obtain ⟨c0, c1, c2, -, -, -⟩ := (K_10.out.keep hS).o3); (obtain ⟨d0, d1, d2, -, -, -⟩ := (M_10.out.keep hS).o3); clear hS; go_simp; first | done | exact rfl)))); (case hc => (simp only [Act.put, List.setIfInBounds_toArray, List.set_cons_zero, List.set_cons_succ]; first | done | exact rfl)); (try (case hj => rfl)))
    (refine' grow_callP (p := fun v w => NetV w v n) (hp := fun v w w' h hb => h.below hb) rfl Tryz.func13 (by kernel_rfl) rfl hGS rfl ?wt24 ?run24 ?put24 ?next24; (case wt24 => rfl); (case run24 => (intro w' hS H; exact vOf (N_10.out.below hS) (by have := HFW.out.v; omega) (by have := HFW.out.a; omega) (by have := HFW.out.t; omega) (fun t ht => by have := HFW.out.c t ht; omega))); (case put24 => (intro v; simp only [Act.put, List.setIfInBounds_toArray, List.set_cons_zero, List.set_cons_succ]; first | done | exact rfl)); (case' next24 => intro v4))
    iterate 1 ((first | (apply grow_skip; (case hf => rfl); (case hw => rfl)) | (apply grow_lit; (case hf => rfl); (case hw => rfl); (case hrun => (intro w' hS H; clear H; (obtain ⟨c0, c1, c2, -, -, -⟩ := (K_10.out.keep hS).o3); (obtain ⟨d0, d1, d2, -, -, -⟩ := (M_10.out.keep hS).o3); clear hS; go_simp; first | done | exact rfl)))); (case hc => (simp only [Act.put, List.setIfInBounds_toArray, List.set_cons_zero, List.set_cons_succ]; first | done | exact rfl)); (try (case hj => rfl)))
    (refine' grow_call (u := .bool true) rfl Tryz.func12 (by kernel_rfl) rfl hGS rfl ?wt25 ?run25 ?put25 ?next25; (case wt25 => rfl); (case run25 => (intro w' hS H; (have h4 : NetV w' v4 n := H 4 (by decide)); exact rvsame h4 (V_10.out.below hS) (by unfold sameN; simp))); (case put25 => (simp only [Act.put, List.setIfInBounds_toArray, List.set_cons_zero, List.set_cons_succ]; first | done | exact rfl)); (case' next25 => skip))
    iterate 2 ((first | (apply grow_skip; (case hf => rfl); (case hw => rfl)) | (apply grow_lit; (case hf => rfl); (case hw => rfl); (case hrun => (intro w' hS H; clear H; (obtain ⟨c0, c1, c2, -, -, -⟩ := (K_10.out.keep hS).o3); (obtain ⟨d0, d1, d2, -, -, -⟩ := (M_10.out.keep hS).o3); clear hS; go_simp; first | done | exact rfl)))); (case hc => (simp only [Act.put, List.setIfInBounds_toArray, List.set_cons_zero, List.set_cons_succ]; first | done | exact rfl)); (try (case hj => rfl)))
    intro w9 hb _
    have HB := Lib.hid (bOn B_10.out hb)
    clear hb hGS
    go_wp2_with fail
    go_ret
    exact ⟨rfl, HB.out⟩
  · have hRb : (Re != 0) = true := by simp [h0]
    clear h0
    go_wp2_with fail
    go_ret
    exact ⟨rfl, B_8.out⟩

theorem encodes_any (v : Value) (n : NetD) (w : World) (hg : ErrT w) (hv : NetV w v n) (hin : InNet n) :
    Calls Tryz.prog 4 #[v] w fun e w' => e = .returned (.bool true) ∧ Below w.heap.size w w' := by
  cases hf : fewN n with
  | false => exact encodes_many v n w hg hv hf
  | true => exact encodes_few v n w hg hv hin hf

set_option maxRecDepth 100000 in
theorem fileEncodes_walks : Walks laidAll 4 Tryz.f4 := by
  intro H enc W args ds g
  obtain ⟨ps, hA⟩ := g.reads
  obtain ⟨base, hval⟩ := g.okay
  rw [Tryz.params4] at hA hval
  obtain ⟨v0, vs0, d0, ds0, p0, q0, hargs, rfl, rfl, h0, r0⟩ := trodAll_cons hA
  obtain ⟨rfl, rfl, rfl⟩ := trodAll_nil r0
  obtain rfl : args = #[v0] := Array.toList_inj.1 hargs
  obtain ⟨n0, w0, u0⟩ := open_net (hval 0 37 v0 rfl rfl) h0
  exact encodes_any v0 n0 W (errT_of_laid g.laid) w0 u0

theorem fileEncodes_row : Rows.FileEncodesSaid :=
  OpenClaim.holds_of_wide 4 Tryz.f4 rfl rfl rfl rfl rfl rfl rfl ⟨rfl, rfl, rfl, rfl, rfl⟩ rfl rfl rfl rfl rfl (by kernel_rfl) Tryz.func4 (by kernel_rfl)
    (of_decide_eq_true (by kernel_rfl)) (by unfold Func.isWrapper; rw [if_neg (of_decide_eq_false (by kernel_rfl))]; exact ⟨rfl, rfl⟩)
    (fun os started H enc _ => law_lifted (s := Rows.fileEncodesSpec) (L := laidAll) Tryz.func4 (by kernel_rfl) rfl (by kernel_rfl)
      (fun H ds hl => by
        rw [Tryz.params4] at hl
        match ds, hl with
        | [_], _ => exact ⟨rfl, rfl, rfl⟩)
      (by kernel_rfl) os started H enc
      (ChangeSpec.witness_at (enc := enc) (C := Tryz.checked) (os := os) (X := fun w _ => laidMetH Tryz.prog laidAll w) false (laidWorld os) #[.agg #[.slice none 0 0, .slice none 0 0, .slice none 0 0]] 8 rfl (by kernel_rfl) (by kernel_rfl) (by kernel_rfl) (by kernel_rfl) (by kernel_rfl) (laidWorld_met os _))
      fileEncodes_walks)

theorem fileEncodes_card : Rows.FileEncodesCardSaid :=
  Claim7.holds_tied_plain_at .later [] laidKindsAll true (Rows.fileEncodesCard.stood.harness) true
    fileEncodes_row (fun _ h => by cases h) (by kernel_rfl) (fun _ h => by cases h) fileEncodes_row_tie rfl ⟨rfl, rfl⟩ (by kernel_rfl) rfl
    (fun f fn hf hfn => by
      obtain rfl : f = 4 := Option.some.inj ((show Tryz.prog.funcNamed "roundsman/roundsmanlaw5.FileEncodes" = some 4 by kernel_rfl).symm.trans hf) |>.symm
      obtain rfl : fn = Tryz.f4 := (Option.some.inj (Tryz.func4.symm.trans hfn)).symm
      exact ⟨by kernel_rfl, fun j t ht => by
        rw [Tryz.params4] at ht
        exact stand_all #[37] (by kernel_rfl) j t ht⟩)
    (by kernel_rfl)
#print axioms fileEncodes_card

end Go.Proofs.YtjapdbegfanfiaaGreatDoor
