/-
  PROVED: any bytes between a right beginning and a right sum: a net, or why they are none, and never a wrong sum. For every row of bytes. Conditions: the listed library variable holds what the program's own text lays (the card ties it).
-/
import Derived.Test.YtjapdbegfanfiaaGreatDoorB18
import Derived.Test.YtjapdbegfanfiaaGreatDoorNetIn
import Derived.Test.YtjapdbegfanfiaaGreatDoorB5
import Derived.Test.YtjapdbegfanfiaaGreatDoorLaid2
import Derived.Test.YtjapdbegfanfiaaGreatDoorCards
import Derived.Test.YtjapdbegfanfiaaGreatDoorTie
import Derived.SevenTiedAt
import Derived.Test.YtjapdbegfanfiaaGreatDoorInnM
import Derived.Deep.Upon
namespace Go.Proofs.YtjapdbegfanfiaaGreatDoor
open Go.ChangeShapes Go.WideShapes Go.ChangeAt Go.RowKit

/-- Bytes behind a row that is full: the run of that append. -/
theorem app_any {N : Nat} {w : World} {u v : Value} {l m : List Int} (h : BufV N w u l) (hN : N ≤ w.heap.size) (hv : U8s w v m) (hs : l.length + m.length ≤ 1000000000) :
    ∃ v' w', (Builtin.append_ #[22, 22] 22 #[u, v]).run Tryz.prog w = .ok v' w' ∧ BufV N w' v' (l ++ m) ∧ Ext w u w' v' := by
  by_cases hm : m = []
  · subst hm
    obtain ⟨q, c, rfl⟩ := hv.shape
    obtain ⟨uq, uc, rfl⟩ := h.shape
    have hle : l.length ≤ uc := (OldB.of (h.u8s (by simp at hs; omega))).cap.2
    have ht : Tryz.prog.underlying 22 = some (.slice 5) := Tryz.underlying22
    obtain ⟨i0, hi, hz0, hz1, hz2⟩ := info_parts info8
    have hsrc : Src Tryz.prog i0.size 22 (.slice q 0 c) 0 [] w := by
      cases q with
      | none => exact Src.ofNil w ht c
      | some a => exact Src.ofSlice w ht a 0 c [] (by simp) (fun j u hj => by simp at hj) (fun u hu => by cases hu)
    have hr := run_append_nothing (P := Tryz.prog) w 22 22 22 5 i0 ht hi uq l.length uc hle (.slice q 0 c) hsrc
    exact ⟨_, w, hr, by rw [List.append_nil]; exact h, Ext.refl _ _⟩
  · obtain ⟨v', w', h1, h2, h3⟩ := h.app hN hv hm hs
    exact ⟨v', w', h1, Or.inl h2, h3⟩

set_option maxHeartbeats 8000000 in
set_option maxRecDepth 100000 in
theorem inner_long (v : Value) (l : List Int) (w : World) (hg : ErrT w) (hv : U8s w v l) (hl : 2000 < l.length) :
    Calls Tryz.prog 6 #[v] w fun e w' => e = .returned (.bool true) ∧ Below w.heap.size w w' := by
  obtain ⟨p0, c0, rfl⟩ : ∃ q c, v = .slice q l.length c := hv.shape
  have d1 : decide ((2000 : Int) < (l.length : Int)) = true := decide_eq_true (by omega)
  have G_0 := Lib.hid (hg)
  have B_0 := Lib.hid (Below.refl w.heap.size w)
  clear hg hv
  go_enter Tryz.func6, Tryz.ntmps6
  go_wp2_with fail
  refine (known5_any _ G_0.out).mono ?_
  rintro ev w1 ⟨rfl, hb⟩
  have G_1 := Lib.hid (G_0.out.keep hb)
  have B_1 := Lib.hid (bOn B_0.out hb)
  clear hb G_0 B_0 
  go_wp2_with fail
  go_ret
  exact ⟨rfl, B_1.out⟩

set_option maxHeartbeats 8000000 in
set_option maxRecDepth 100000 in
theorem inner_some (v : Value) (l : List Int) (w : World) (hg : ErrT w) (hv : U8s w v l) (hin : In8 l) (hl : ¬ 2000 < l.length) :
    Calls Tryz.prog 6 #[v] w fun e w' => e = .returned (.bool true) ∧ Below w.heap.size w w' := by
  obtain ⟨p0, c0, rfl⟩ : ∃ q c, v = .slice q l.length c := hv.shape
  have d1 : decide ((2000 : Int) < (l.length : Int)) = false := decide_eq_false (by omega)
  have G_0 := Lib.hid (hg)
  have HG0 := Lib.hid hg
  have B_0 := Lib.hid (Below.refl w.heap.size w)
  have V_0 := Lib.hid (OldB.of hv)
  obtain ⟨C, hC⟩ : ∃ C, markL ++ l ++ sumB (markL ++ l) = C := ⟨_, rfl⟩
  obtain ⟨D, hD⟩ : ∃ D, markL ++ l = D := ⟨_, rfl⟩
  have hne := inner_ne l
  have m4 : markL.length = 4 := rfl
  have hD8 : In8 D := by
    intro x hx
    rw [← hD] at hx
    rcases List.mem_append.1 hx with h | h
    · simp [markL] at h; omega
    · exact hin x h
  rw [hC] at hne
  rw [hD] at hC
  have hC8 : In8 C := by
    intro x hx
    rw [← hC] at hx
    rcases List.mem_append.1 hx with h | h
    · exact hD8 x h
    · exact sumB_in8 _ x h
  have hDl : D.length = l.length + 4 := by rw [← hD, List.length_append]; omega
  have hD0 : D ≠ [] := fun e => by rw [e] at hDl; simp at hDl
  have hsm := parse_small hC8
  have hfl := parse_flt C
  obtain ⟨R, hR⟩ : ∃ R, parseF C = R := ⟨_, rfl⟩
  rw [hR] at hsm hfl hne
  obtain ⟨Rn, Rp, Re⟩ := R
  simp only at hsm hfl hne
  have HR := Lib.hid hR
  have HSM := Lib.hid hsm
  have HFL := Lib.hid hfl
  have HC := Lib.hid hC
  have HDD := Lib.hid hD
  have HC8 := Lib.hid hC8
  have HD8 := Lib.hid hD8
  have HD0 := Lib.hid hD0
  have HDL := Lib.hid hDl
  have hRb : (Re != 11) = true := by simp [hne]
  clear hg hv hin hR hsm hfl hC hD hC8 hD8 hD0 hne hDl m4
  go_enter Tryz.func6, Tryz.ntmps6
  go_wp2_with fail
  refine (known5_any _ G_0.out).mono ?_
  rintro ev w1 ⟨rfl, hb⟩
  have G_1 := Lib.hid (G_0.out.keep hb)
  have B_1 := Lib.hid (bOn B_0.out hb)
  have V_1 := Lib.hid (V_0.out.below hb)
  clear hb G_0 B_0 V_0 
  have kc := fun (w : World) (C : Array Value) (n c : Nat) => Lib.run_convert_bytes_const (P := Tryz.prog) w 22 5 C n c Tryz.underlying22 Tryz.underlying5
  have hb0 : Below w1.heap.size w1 (w1.alloc (.cells #[.int .u8 82, .int .u8 78, .int .u8 68, .int .u8 49] 5 (4, 5))) := below_new8 _
  obtain ⟨xv, w2, hrun, hx, hxe⟩ := app_any (N := w.heap.size) (l := markL) (u := .slice (some ⟨w1.heap.size, 0, none⟩) 4 4) (w := w1.alloc (.cells #[.int .u8 82, .int .u8 78, .int .u8 68, .int .u8 49] 5 (4, 5))) (Or.inr ⟨by simp [markL], w1.heap.size, rfl, B_1.out.size, U8at.marked w1 markL (by simp [markL]) _ rfl (4, 5)⟩) (by have := B_1.out.size; have := hb0.size; omega) (V_1.out.below hb0).s (by have m4 : markL.length = 4 := rfl; omega)
  have HRUN := Lib.hid hrun
  have hlow : Below w1.heap.size w1 w2 := hb0.trans (hxe.low (fun g hg => by simp [Value.ownBlock] at hg; omega) hb0.size)
  have hb := hlow
  have G_2 := Lib.hid (G_1.out.keep hb)
  have B_2 := Lib.hid (bOn B_1.out hb)
  have V_2 := Lib.hid (V_1.out.below hb)
  rw [HDD.out] at hx
  have HX := Lib.hid hx
  obtain ⟨xq, xc, rfl⟩ := hx.shape
  clear hb hb0 hlow hrun hx hxe G_1 B_1 V_1
  go_upto_region 6 with (at_builtin; refine wpList_append_run rfl _ _ 22 rfl _ _ _ rfl rfl HRUN.out ?_)
  clear HRUN kc
  go_wp2_with fail
  refine (rsum8_any (.slice xq D.length xc) D w2 (HX.out.u8s (by have := HDL.out; omega)) HD8.out).mono ?_
  rintro ev w3 ⟨sv, z, rfl, hsv, -, hb⟩
  have hsl : (sumB D).length = 4 := sumB_len D
  obtain ⟨cv, w4, hrun, hx, hxe⟩ := BufV.app (HX.out.kept hb) (by have := B_2.out.size; have := hb.size; omega) ⟨z, hsv⟩ (fun e => by rw [e] at hsl; simp at hsl) (by have := HDL.out; omega)
  have HRUN := Lib.hid hrun
  rw [HC.out] at hx
  have HXC := Lib.hid hx
  have hge := HX.out.ge
  have hext := (Ext.below (.slice xq D.length xc) hb).trans hxe
  have hlw : Below w.heap.size w2 w4 := hext.low hge (by have := B_2.out.size; omega)
  have G_9 := Lib.hid (HG0.out.keep (B_2.out.trans hlw))
  have B_9 := Lib.hid (B_2.out.trans hlw)
  have X_9 := Lib.hid (HXC.out.u8s (by rw [← HC.out, List.length_append]; have := HDL.out; omega))
  clear hsl hsv hb hrun hx hxe hge hext hlw HX HXC G_2 B_2 V_2
  go_wp2_with (at_builtin; refine wpList_append_run rfl _ _ 22 rfl _ _ _ rfl rfl HRUN.out ?_)
  clear HRUN
  refine (vParseV X_9.out HC8.out HR.out).mono ?_
  rintro ev w5 ⟨nv, er, rfl, hn, hf, hb⟩
  obtain ⟨vq, aq, tq, vc, ac, tc, rfl, -⟩ := hn.shape
  have G_10 := Lib.hid (G_9.out.keep hb)
  have B_10 := Lib.hid (bOn B_9.out hb)
  have X_10 := Lib.hid (X_9.out.below hb)
  have N_10 := Lib.hid (hn)
  have F_10 := Lib.hid (hf)
  clear hb G_9 B_9 X_9 hn hf
  obtain ⟨pW3, hpW3⟩ : ∃ p, w5.heap.size = p := ⟨_, rfl⟩
  obtain ⟨W3, hW3⟩ := named (w5.alloc (.cells #[.slice vq Rn.v.length vc, .slice aq Rn.a.length ac, .slice tq Rn.t.length tc] 28))
  have hb : Below w5.heap.size w5 W3 := by rw [hW3]; exact below_new8 _
  have G_11 := Lib.hid (G_10.out.keep hb)
  have B_11 := Lib.hid (bOn B_10.out hb)
  have X_11 := Lib.hid (X_10.out.below hb)
  have N_11 := Lib.hid (N_10.out.below hb)
  have F_11 := Lib.hid (FaultV.below hb F_10.out)
  have K_11 : Hid (Blk W3 pW3 #[.slice vq Rn.v.length vc, .slice aq Rn.a.length ac, .slice tq Rn.t.length tc] 28) := by rw [hW3]; exact Lib.hid (Blk.new _ _ _ _ (by simp [hpW3]))
  go_upto_region 8 with fail
  rw [← hW3]
  clear hb hW3 hpW3 G_10 B_10 X_10 N_10 F_10
  go_wp2_with fail
  refine (rParseV X_11.out HC8.out HR.out).mono ?_
  rintro ev w6 ⟨mv, wv, rfl, hm, hw, hb⟩
  obtain ⟨vq2, aq2, tq2, vc2, ac2, tc2, rfl, -⟩ := hm.shape
  obtain ⟨wq, wn, wc, rfl⟩ := hw.shape
  have G_12 := Lib.hid (G_11.out.keep hb)
  have B_12 := Lib.hid (bOn B_11.out hb)
  have X_12 := Lib.hid (X_11.out.below hb)
  have N_12 := Lib.hid (N_11.out.below hb)
  have F_12 := Lib.hid (FaultV.below hb F_11.out)
  have K_12 := Lib.hid (K_11.out.keep hb)
  have M_12 := Lib.hid (hm)
  have W_12 := Lib.hid (hw)
  clear hb G_11 B_11 X_11 N_11 F_11 K_11 hm hw
  obtain ⟨pW4, hpW4⟩ : ∃ p, w6.heap.size = p := ⟨_, rfl⟩
  obtain ⟨W4, hW4⟩ := named ((w6.alloc (.cells #[.slice vq2 Rn.v.length vc2, .slice aq2 Rn.a.length ac2, .slice tq2 Rn.t.length tc2] 37)).alloc (.cells #[.slice wq wn wc, .int .i64 Re] 40))
  have hb : Below w6.heap.size w6 W4 := by rw [hW4]; exact (below_new8 _).trans ((below_new8 _).mono (by simp))
  have G_13 := Lib.hid (G_12.out.keep hb)
  have B_13 := Lib.hid (bOn B_12.out hb)
  have X_13 := Lib.hid (X_12.out.below hb)
  have N_13 := Lib.hid (N_12.out.below hb)
  have F_13 := Lib.hid (FaultV.below hb F_12.out)
  have K_13 := Lib.hid (K_12.out.keep hb)
  have M_13 := Lib.hid (M_12.out.below hb)
  have W_13 := Lib.hid (WrongV.below hb W_12.out)
  have J_13 : Hid (Blk W4 pW4 #[.slice vq2 Rn.v.length vc2, .slice aq2 Rn.a.length ac2, .slice tq2 Rn.t.length tc2] 37) := by rw [hW4]; exact Lib.hid ((Blk.new _ _ _ _ (by simp [hpW4])).old _)
  have L_13 : Hid (Blk W4 (pW4 + 1) #[.slice wq wn wc, .int .i64 Re] 40) := by rw [hW4]; exact Lib.hid (Blk.new _ _ _ _ (by simp [hpW4]))
  go_upto_region 9 with fail
  rw [← hW4]
  clear hb hW4 hpW4 G_12 B_12 X_12 N_12 F_12 K_12 M_12 W_12
  have hGS : Grows (fun w' => Below W4.heap.size W4 w') := Grows.below W4
  refine' wp_growL _ (fun w' => Below W4.heap.size W4 w') [[], [], [0, 1], [2], [3], [3, 4], [3], [3, 5, 6], [3, 7], [8], [9], [9, 10], [9, 11], [9, 12], [13]] (Fact.lit _ :: Fact.lit _ :: Fact.lit _ :: Fact.lit _ :: Fact.lit _ :: Fact.prop _ _ :: Fact.lit _ :: Fact.lit _ :: Fact.lit _ :: Fact.lit _ :: Fact.lit _ :: Fact.lit _ :: Fact.lit _ :: Fact.lit _ :: Fact.lit _ :: []) (by kernel_rfl) rfl (by kernel_rfl) (Below.refl _ _).drew ?seqfi
  case' seqfi => skip
  iterate 2 ((first | (apply grow_skip; (case hf => rfl); (case hw => rfl)) | (apply grow_lit; (case hf => rfl); (case hw => rfl); (case hrun => (intro w' hS H; clear H; (obtain ⟨c0', c1', c2', -, -, -⟩ := (K_13.out.keep hS).o3); (obtain ⟨d0, d1, d2, -, -, -⟩ := (J_13.out.keep hS).o3); (obtain ⟨e0, e1, -, -⟩ := (L_13.out.keep hS).o2); clear hS; go_simp; first | done | exact rfl)))); (case hc => (simp only [Act.put, List.setIfInBounds_toArray, List.set_cons_zero, List.set_cons_succ]; first | done | exact rfl)); (try (case hj => rfl)))
  (refine' grow_call (u := .bool true) rfl Tryz.func11 (by kernel_rfl) rfl hGS rfl ?wt1 ?run1 ?put1 ?next1; (case wt1 => rfl); (case run1 => (intro w' hS H; exact tells_post _ _ Rp Re w' (G_13.out.keep hS) (FaultV.below hS F_13.out) (WrongV.below hS W_13.out) HFL.out)); (case put1 => (simp only [Act.put, List.setIfInBounds_toArray, List.set_cons_zero, List.set_cons_succ]; first | done | exact rfl)); (case' next1 => skip))
  iterate 2 ((first | (apply grow_skip; (case hf => rfl); (case hw => rfl)) | (apply grow_lit; (case hf => rfl); (case hw => rfl); (case hrun => (intro w' hS H; clear H; (obtain ⟨c0', c1', c2', -, -, -⟩ := (K_13.out.keep hS).o3); (obtain ⟨d0, d1, d2, -, -, -⟩ := (J_13.out.keep hS).o3); (obtain ⟨e0, e1, -, -⟩ := (L_13.out.keep hS).o2); clear hS; go_simp; first | done | exact rfl)))); (case hc => (simp only [Act.put, List.setIfInBounds_toArray, List.set_cons_zero, List.set_cons_succ]; first | done | exact rfl)); (try (case hj => rfl)))
  (refine' grow_callP (p := fun v w => NetV w v Rn) (hp := fun v w w' h hb => h.below hb) rfl Tryz.func13 (by kernel_rfl) rfl hGS rfl ?wt2 ?run2 ?put2 ?next2; (case wt2 => rfl); (case run2 => (intro w' hS H; exact vOf (N_13.out.below hS) (by have := HSM.out.1.1; omega) (by have := HSM.out.1.2.1; omega) (by have := HSM.out.1.2.2; omega) (fun t ht => by have := HSM.out.2.1 t ht; omega))); (case put2 => (intro v; simp only [Act.put, List.setIfInBounds_toArray, List.set_cons_zero, List.set_cons_succ]; first | done | exact rfl)); (case' next2 => intro v5))
  iterate 1 ((first | (apply grow_skip; (case hf => rfl); (case hw => rfl)) | (apply grow_lit; (case hf => rfl); (case hw => rfl); (case hrun => (intro w' hS H; clear H; (obtain ⟨c0', c1', c2', -, -, -⟩ := (K_13.out.keep hS).o3); (obtain ⟨d0, d1, d2, -, -, -⟩ := (J_13.out.keep hS).o3); (obtain ⟨e0, e1, -, -⟩ := (L_13.out.keep hS).o2); clear hS; go_simp; first | done | exact rfl)))); (case hc => (simp only [Act.put, List.setIfInBounds_toArray, List.set_cons_zero, List.set_cons_succ]; first | done | exact rfl)); (try (case hj => rfl)))
  (refine' grow_call (u := .bool true) rfl Tryz.func12 (by kernel_rfl) rfl hGS rfl ?wt3 ?run3 ?put3 ?next3; (case wt3 => rfl); (case run3 => (intro w' hS H; (have h5 : NetV w' v5 Rn := H 5 (by decide)); exact rvsame h5 (M_13.out.below hS) (by unfold sameN; simp))); (case put3 => (simp only [Act.put, List.setIfInBounds_toArray, List.set_cons_zero, List.set_cons_succ]; first | done | exact rfl)); (case' next3 => skip))
  iterate 7 ((first | (apply grow_skip; (case hf => rfl); (case hw => rfl)) | (apply grow_lit; (case hf => rfl); (case hw => rfl); (case hrun => (intro w' hS H; clear H; (obtain ⟨c0', c1', c2', -, -, -⟩ := (K_13.out.keep hS).o3); (obtain ⟨d0, d1, d2, -, -, -⟩ := (J_13.out.keep hS).o3); (obtain ⟨e0, e1, -, -⟩ := (L_13.out.keep hS).o2); clear hS; go_simp; first | done | exact rfl)))); (case hc => (simp only [Act.put, List.setIfInBounds_toArray, List.set_cons_zero, List.set_cons_succ]; first | done | exact rfl)); (try (case hj => rfl)))
  intro w9 hb _
  have HB := Lib.hid (bOn B_13.out hb)
  clear hb hGS
  go_wp2_with fail
  go_ret
  exact ⟨rfl, HB.out⟩

theorem inner_any (v : Value) (l : List Int) (w : World) (hg : ErrT w) (hv : U8s w v l) (hin : In8 l) :
    Calls Tryz.prog 6 #[v] w fun e w' => e = .returned (.bool true) ∧ Below w.heap.size w w' := by
  by_cases hl : 2000 < l.length
  · exact inner_long v l w hg hv hl
  · exact inner_some v l w hg hv hin hl

set_option maxRecDepth 100000 in
theorem fileInner_walks : Walks laidAll 6 Tryz.f6 := by
  intro H enc W args ds g
  obtain ⟨ps, hA⟩ := g.reads
  obtain ⟨base, hval⟩ := g.okay
  rw [Tryz.params6] at hA hval
  obtain ⟨v0, vs0, d0, ds0, p0, q0, hargs, rfl, rfl, h0, r0⟩ := trodAll_cons hA
  obtain ⟨rfl, rfl, rfl⟩ := trodAll_nil r0
  obtain rfl : args = #[v0] := Array.toList_inj.1 hargs
  obtain ⟨x0, w0, u0⟩ := open_u8s (hval 0 22 v0 rfl rfl) h0
  exact inner_any v0 x0 W (errT_of_laid g.laid) w0 u0

theorem fileInner_row : Rows.FileInnerSaid :=
  OpenClaim.holds_of_wide 6 Tryz.f6 rfl rfl rfl rfl rfl rfl rfl ⟨rfl, rfl, rfl, rfl, rfl⟩ rfl rfl rfl rfl rfl (by kernel_rfl) Tryz.func6 (by kernel_rfl)
    (of_decide_eq_true (by kernel_rfl)) (by unfold Func.isWrapper; rw [if_neg (of_decide_eq_false (by kernel_rfl))]; exact ⟨rfl, rfl⟩)
    (fun os started H enc _ => law_lifted (s := Rows.fileInnerSpec) (L := laidAll) Tryz.func6 (by kernel_rfl) rfl (by kernel_rfl)
      (fun H ds hl => by
        rw [Tryz.params6] at hl
        match ds, hl with
        | [_], _ => exact ⟨rfl, rfl, rfl⟩)
      (by kernel_rfl) os started H enc
      (ChangeSpec.witness_at (enc := enc) (C := Tryz.checked) (os := os) (X := fun w _ => laidMetH Tryz.prog laidAll w) false (laidWorld os) #[.slice none 0 0] 8 rfl (by kernel_rfl) (by kernel_rfl) (by kernel_rfl) (by kernel_rfl) (by kernel_rfl) (laidWorld_met os _))
      fileInner_walks)

theorem fileInner_card : Rows.FileInnerCardSaid :=
  Claim7.holds_tied_plain_at .later [] laidKindsAll true (Rows.fileInnerCard.stood.harness) true
    fileInner_row (fun _ h => by cases h) (by kernel_rfl) (fun _ h => by cases h) fileInner_row_tie rfl ⟨rfl, rfl⟩ (by kernel_rfl) rfl
    (fun f fn hf hfn => by
      obtain rfl : f = 6 := Option.some.inj ((show Tryz.prog.funcNamed "roundsman/roundsmanlaw5.FileInner" = some 6 by kernel_rfl).symm.trans hf) |>.symm
      obtain rfl : fn = Tryz.f6 := (Option.some.inj (Tryz.func6.symm.trans hfn)).symm
      exact ⟨by kernel_rfl, fun j t ht => by
        rw [Tryz.params6] at ht
        exact stand_all #[22] (by kernel_rfl) j t ht⟩)
    (by kernel_rfl)
#print axioms fileInner_card

end Go.Proofs.YtjapdbegfanfiaaGreatDoor
