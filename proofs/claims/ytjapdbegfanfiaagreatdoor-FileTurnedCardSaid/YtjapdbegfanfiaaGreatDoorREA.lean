/-
  The document's Encode.
-/
import Derived.Test.YtjapdbegfanfiaaGreatDoorB17
import Derived.Test.YtjapdbegfanfiaaGreatDoorB14
namespace Go.Proofs.YtjapdbegfanfiaaGreatDoor
open Go.RowKit

set_option maxRecDepth 100000 in
set_option maxHeartbeats 4000000 in
theorem rprice_any {c : Int} (hc : wgt c = true) (w : World) : Calls Tryz.prog 46 #[.int .i64 c] w (RowPost8 (enc (pz c)) w) := by
  have hp := pz_in hc
  by_cases hI : c = 1152921504606846976
  · have hb : (c == 1152921504606846976) = true := by simp [hI]
    have hz : pz c = 0 := if_pos hI
    have HZ := Lib.hid hz
    clear hI hz hp
    go_enter Tryz.func46, Tryz.ntmps46
    go_wp2_with fail
    refine (ruint_any 0 _ (by omega) (by omega)).mono ?_
    rintro ev w1 ⟨v, z, rfl, hr⟩
    have HA := Lib.hid hr
    clear hr
    go_wp2_with fail
    go_ret
    rw [HZ.out]
    exact ⟨v, z, rfl, HA.out⟩
  · have hb : (c == 1152921504606846976) = false := by simpa using hI
    have hz : pz c = c + 1 := if_neg hI
    have hc0 : 0 ≤ c ∧ c ≤ 2147483648 := by unfold wgt at hc; simp at hc; omega
    have hw1 : IntKind.u64.wrap c = c := wrap_u hc0.1 (by omega)
    have hw2 : IntKind.u64.wrap (c + 1) = c + 1 := wrap_u (by omega) (by omega)
    have HZ := Lib.hid hz
    have HC := Lib.hid hc0
    clear hI hz hc0 hc hp
    go_enter Tryz.func46, Tryz.ntmps46
    go_wp2_with fail
    refine (ruint_any (c + 1) _ (by have := HC.out.1; omega) (by have := HC.out.2; omega)).mono ?_
    rintro ev w1 ⟨v, z, rfl, hr⟩
    have HA := Lib.hid hr
    clear hr
    go_wp2_with fail
    go_ret
    rw [HZ.out]
    exact ⟨v, z, rfl, HA.out⟩
/-- What the document's Encode answers. -/
def E6Post (R : List Int × Flt) (w : World) (ev : Ending) (w' : World) : Prop := ∃ v wv, ev = .returned (.tuple #[v, wv]) ∧ U8s w' v R.1 ∧ WrongV w' wv R.2.1 R.2.2 ∧ Below w.heap.size w w'
set_option maxRecDepth 100000 in
set_option maxHeartbeats 4000000 in
theorem rEncode {w : World} {v : Value} {n : NetD} (h : NetV w v n) (hin : InNet n) : Calls Tryz.prog 17 #[v] w (E6Post (encodeF n) w) := by
  obtain ⟨vq, aq, tq, vc, ac, tc, rfl, hS⟩ := h.shape
  have HNS := Lib.hid hS
  obtain ⟨B, hB⟩ : ∃ B, w.heap.size = B := ⟨_, rfl⟩
  obtain ⟨W0, hW0⟩ := named ((w.alloc (.cells #[.slice vq n.v.length vc, .slice aq n.a.length ac, .slice tq n.t.length tc] 37)).alloc (.cells #[.slice none 0 0, .int .i64 0] 40))
  have KB0 : Hid (Blk W0 B #[.slice vq n.v.length vc, .slice aq n.a.length ac, .slice tq n.t.length tc] 37) := by rw [hW0]; exact Lib.hid ((Blk.new _ _ _ _ hB).old _)
  have KR0 : Hid (Blk W0 (B + 1) #[.slice none 0 0, .int .i64 0] 40) := by rw [hW0]; exact Lib.hid (Blk.new _ _ _ _ (by simp [hB]))
  have BB0 : Hid (Below w.heap.size w W0) := by rw [hW0]; exact Lib.hid ((below_new8 _).trans ((below_new8 _).mono (by simp)))
  have HNV := Lib.hid (h.below BB0.out)
  have HIN := Lib.hid hin
  have hz0 : B + 1 < W0.heap.size := KR0.out.lt
  clear h hS hin
  obtain ⟨F, hF⟩ : ∃ F, chkN n = F := ⟨_, rfl⟩
  have HF := Lib.hid hF
  have hor := @flt_or n
  rw [hF] at hor
  clear hF
  go_enter Tryz.func17, Tryz.ntmps17
  obtain ⟨b0, b1, b2, -, -, -⟩ := KB0.out.o3
  go_upto_region 1 with fail
  rw [← hW0]
  clear hW0
  go_wp2_with fail
  refine (rvcheck HNV.out HIN.out HF.out).mono ?_
  rintro ev w1 ⟨fv, rfl, hf, hb⟩
  obtain ⟨fq, fn, fc, rfl⟩ := hf.shape
  obtain ⟨Wc, hWc⟩ := named (w1.alloc (.cells #[.slice fq fn fc, .int .i64 F.2] 40))
  have hbw := hb.trans ((below_new8 (w := w1) (.cells #[.slice fq fn fc, .int .i64 F.2] 40)).mono hb.size)
  rw [← hWc] at hbw
  obtain ⟨TW, hTW⟩ : ∃ T, w1.heap.size = T := ⟨_, rfl⟩
  have KB1 := Lib.hid (KB0.out.keep hbw)
  have KR1 := Lib.hid (KR0.out.keep hbw)
  have HB1 := Lib.hid (bOn BB0.out hbw)
  have KT1 : Hid (Blk Wc TW #[.slice fq fn fc, .int .i64 F.2] 40) := by rw [hWc]; exact Lib.hid (Blk.new _ _ _ _ hTW)
  have HWc : Hid (WrongV Wc (.agg #[.slice fq fn fc, .int .i64 F.2]) F.1 F.2) := by rw [hWc]; exact Lib.hid (hf.below (below_new8 _))
  have hz1 : B + 1 < TW := by have := hb.size; omega
  have hz2 : TW < Wc.heap.size := KT1.out.lt
  clear hf hb hbw KB0 KR0 BB0 HNV b0 b1 b2 hz0
  go_upto_region 2 with fail
  rw [← hWc]
  clear hWc hTW
  obtain ⟨b0, b1, b2, -, -, -⟩ := KB1.out.o3
  obtain ⟨r0, r1, f0, f1⟩ := KR1.out.o2
  obtain ⟨t0, t1, -, -⟩ := KT1.out.o2
  have hne1 : TW ≠ B + 1 := by omega
  rcases hor with ⟨e1, e2⟩ | ⟨e1, -, e2⟩
  case inr =>
    have hFb : (F.2 != 0) = true := by simp [e2]
    have HP : Hid (E6Post (encodeF n) w (.returned (.tuple #[.slice none 0 0, .agg #[.slice fq fn fc, .int .i64 F.2]])) (((Wc.drew).setCell ⟨B + 1, 0, none⟩ (.slice fq fn fc)).setCell ⟨B + 1, 1, none⟩ (.int .i64 F.2))) := by
      unfold encodeF
      rw [HF.out, if_pos e2]
      have hw : WrongV (((Wc.drew).setCell ⟨B + 1, 0, none⟩ (.slice fq fn fc)).setCell ⟨B + 1, 1, none⟩ (.int .i64 F.2)) (.agg #[.slice fq fn fc, .int .i64 F.2]) F.1 F.2 := by
        refine HWc.out.only (ks := [B + 1]) ?_ ?_
        · iterate 2 (refine Only.setCell ?_ _ _ (by simp))
          exact Only.refl _ _
        · exact NoStr.cons KR1.out (by intro v hv s; simp at hv; rcases hv with rfl | rfl <;> simp) (NoStr.nil _)
      refine Lib.hid ⟨_, _, rfl, U8s.nil _, hw, ?_⟩
      iterate 2 (refine Below.setCell ?_ (by simp only []; omega) _)
      exact HB1.out.drew
    clear e1 e2 KB1 KR1 HB1 KT1 HWc b0 b1 b2
    go_wp2_with fail
    go_region
    all_goals
      go_wp2_with fail
      exact bodyPost_ret (v := .tuple #[.slice none 0 0, .agg #[.slice fq fn fc, .int .i64 F.2]]) (by simp [results, Tryz.results17, go_sem]; try go_simp) rfl HP.out
  case inl =>
    obtain ⟨Fp, Fe⟩ := F
    simp only at e1 e2
    subst e1 e2
    have h0 : (chkN n).2 = 0 := by rw [HF.out]
    have hg := good_of h0
    have HTG := Lib.hid hg.tOK
    have HVG := Lib.hid hg.vOK
    have HAG := Lib.hid hg.aOK
    have hsv := hg.sv
    have hsa := hg.sa
    have hst := hg.st
    have HC0 := Lib.hid h0
    obtain ⟨L3, h3⟩ : ∃ L, markL ++ encs [(n.t.length : Int), (n.v.length : Int), (n.a.length : Int)] = L := ⟨_, rfl⟩
    obtain ⟨L4, h4⟩ : ∃ L, L3 ++ encs (n.t.flatMap numsT) = L := ⟨_, rfl⟩
    obtain ⟨L5, h5⟩ : ∃ L, L4 ++ encs (numsV 0 0 n.v) = L := ⟨_, rfl⟩
    obtain ⟨L6, h6⟩ : ∃ L, L5 ++ encs (n.a.flatMap numsA) = L := ⟨_, rfl⟩
    have hbody : L6 = bodyN n := by rw [← h6, ← h5, ← h4, ← h3]; exact body_is n
    have m4 : markL.length = 4 := rfl
    have q1 := encs_len [(n.t.length : Int), (n.v.length : Int), (n.a.length : Int)]
    simp only [List.length_cons, List.length_nil] at q1
    have p3 : L3.length ≤ 100 := by rw [← h3, List.length_append]; omega
    have HL4 : Hid (∀ k, (L3 ++ encs ((n.t.take k).flatMap numsT)).length ≤ 1000000) := Lib.hid fun k => by
      have q2 := encs_len ((n.t.take k).flatMap numsT)
      have q5 := flatT_len (n.t.take k) (fun t ht => (chkT_len (HTG.out t (List.mem_of_mem_take ht))).2.2.1)
      have q6 : (n.t.take k).length ≤ n.t.length := by rw [List.length_take]; omega
      rw [List.length_append]
      omega
    have p4 : L4.length ≤ 1000000 := by have := HL4.out n.t.length; rw [List.take_length, h4] at this; exact this
    have HL5 : Hid (∀ k, (L4 ++ encs (numsV 0 0 (n.v.take k))).length ≤ 2000000) := Lib.hid fun k => by
      have q2 := encs_len (numsV 0 0 (n.v.take k))
      rw [numsV_len] at q2
      have q6 : (n.v.take k).length ≤ n.v.length := by rw [List.length_take]; omega
      rw [List.length_append]
      omega
    have p5 : L5.length ≤ 2000000 := by have := HL5.out n.v.length; rw [List.take_length, h5] at this; exact this
    have HL6 : Hid (∀ k, (L5 ++ encs ((n.a.take k).flatMap numsA)).length ≤ 4000000) := Lib.hid fun k => by
      have q2 := encs_len ((n.a.take k).flatMap numsA)
      rw [numsA_len] at q2
      have q6 : (n.a.take k).length ≤ n.a.length := by rw [List.length_take]; omega
      rw [List.length_append]
      omega
    have p6 : L6.length ≤ 4000000 := by have := HL6.out n.a.length; rw [List.take_length, h6] at this; exact this
    have H3 := Lib.hid h3
    have H4 := Lib.hid h4
    have H5 := Lib.hid h5
    have H6 := Lib.hid h6
    have HBD := Lib.hid hbody
    have HP6 := Lib.hid p6
    obtain ⟨N, hN⟩ : ∃ N, B + 2 = N := ⟨_, rfl⟩
    have hBN : B < N := by omega
    have hBN1 : B + 1 < N := by omega
    have hwN : w.heap.size ≤ N := by omega
    have hBw : w.heap.size ≤ B := by omega
    have hNc : N ≤ Wc.heap.size := by omega
    have kc := fun (w : World) (C : Array Value) (n c : Nat) => Lib.run_convert_bytes_const (P := Tryz.prog) w 22 5 C n c Tryz.underlying22 Tryz.underlying5
    have hwT : IntKind.u64.wrap (n.t.length : Int) = n.t.length := wrap_u (by omega) (by omega)
    have hwV : IntKind.u64.wrap (n.v.length : Int) = n.v.length := wrap_u (by omega) (by omega)
    have hwA : IntKind.u64.wrap (n.a.length : Int) = n.a.length := wrap_u (by omega) (by omega)
    clear h0 hg h3 h4 h5 h6 hbody hN hz1 hz2 HWc hne1 q1 m4 p6 hB
    go_upto_region 5 with fail
    clear t0 t1 KT1
    obtain ⟨X1, hX1⟩ : ∃ x, Wc.heap.size = x := ⟨_, rfl⟩
    obtain ⟨W2, hW2⟩ := named (Wc.alloc (.cells #[.int .u8 82, .int .u8 78, .int .u8 68, .int .u8 49] 5 (4, 5)))
    have hb2 : Below Wc.heap.size Wc W2 := by rw [hW2]; exact below_new8 _
    have HO2 : Hid (BufV N W2 (.slice (some ⟨X1, 0, none⟩) 4 4) markL) := by rw [hW2, ← hX1]; exact Lib.hid (Or.inr ⟨by simp [markL], _, rfl, hNc, U8at.marked Wc markL (by simp [markL]) _ rfl (4, 5)⟩)
    have HB2 := Lib.hid (HB1.out.trans (hb2.mono (by omega)))
    have KB2 := Lib.hid (KB1.out.keep hb2)
    have KR2 := Lib.hid (KR1.out.keep hb2)
    have hN2 : N ≤ W2.heap.size := by have := hb2.size; omega
    rw [← hW2, hX1]
    clear hW2 hX1 b0 b1 b2 hb2 r0 r1 f0 f1 KB1 KR1 HB1
    obtain ⟨b0, b1, b2, -, -, -⟩ := KB2.out.o3
    have m4 : markL.length = 4 := rfl
    go_wp2_with fail
    refine (ruint_any (n.t.length : Int) _ (by omega) (by omega)).mono ?_
    rintro ev w2a ⟨v, z, rfl, hv, -, hb⟩
    have hel := enc_len (n.t.length : Int)
    obtain ⟨v3, w2b, hrun, ho, he⟩ := BufV.app (HO2.out.kept hb) (by have := hb.size; omega) ⟨z, hv⟩ (enc_ne _) (by omega)
    have HRUN := Lib.hid hrun
    have hep := (Ext.below _ hb).trans he
    have hlow : Below N W2 w2b := hep.low HO2.out.ge hN2
    have HO3 := Lib.hid ho
    have HB3 := Lib.hid (HB2.out.trans (hlow.mono hwN))
    have KB3 := Lib.hid (KB2.out.carry hlow hBN)
    have KR3 := Lib.hid (KR2.out.carry hlow hBN1)
    have hN3 : N ≤ w2b.heap.size := by have := hlow.size; omega
    clear hv hb hrun ho he hep hel hlow HO2 HB2 KB2 KR2 b0 b1 b2
    obtain ⟨b0, b1, b2, -, -, -⟩ := KB3.out.o3
    go_wp2_with (at_builtin; refine wpList_append_run rfl _ _ 22 rfl _ _ _ rfl rfl HRUN.out ?_)
    clear HRUN
    refine (ruint_any (n.v.length : Int) _ (by omega) (by omega)).mono ?_
    rintro ev w3a ⟨v, z, rfl, hv, -, hb⟩
    have hel := enc_len (n.v.length : Int)
    obtain ⟨v4, w3b, hrun, ho, he⟩ := BufV.app (Or.inl (own_below8 HO3.out hb)) (by have := hb.size; omega) ⟨z, hv⟩ (enc_ne _) (by rw [List.length_append]; have := enc_len (n.t.length : Int); omega)
    have HRUN := Lib.hid hrun
    have hep := (Ext.below _ hb).trans he
    have hlow : Below N w2b w3b := hep.low HO3.out.ge hN3
    have HO4 := Lib.hid ho
    have HB4 := Lib.hid (HB3.out.trans (hlow.mono hwN))
    have KB4 := Lib.hid (KB3.out.carry hlow hBN)
    have KR4 := Lib.hid (KR3.out.carry hlow hBN1)
    have hN4 : N ≤ w3b.heap.size := by have := hlow.size; omega
    clear hv hb hrun ho he hep hel hlow HO3 HB3 KB3 KR3 b0 b1 b2
    obtain ⟨b0, b1, b2, -, -, -⟩ := KB4.out.o3
    go_wp2_with (at_builtin; refine wpList_append_run rfl _ _ 22 rfl _ _ _ rfl rfl HRUN.out ?_)
    clear HRUN
    refine (ruint_any (n.a.length : Int) _ (by omega) (by omega)).mono ?_
    rintro ev w4a ⟨v, z, rfl, hv, -, hb⟩
    have hel := enc_len (n.a.length : Int)
    obtain ⟨v5, w4b, hrun, ho, he⟩ := BufV.app (Or.inl (own_below8 HO4.out hb)) (by have := hb.size; omega) ⟨z, hv⟩ (enc_ne _) (by rw [List.length_append, List.length_append]; have := enc_len (n.t.length : Int); have := enc_len (n.v.length : Int); omega)
    have HRUN := Lib.hid hrun
    have hep := (Ext.below _ hb).trans he
    have hlow : Below N w3b w4b := hep.low HO4.out.ge hN4
    have HO5 := Lib.hid ho
    have HB5 := Lib.hid (HB4.out.trans (hlow.mono hwN))
    have KB5 := Lib.hid (KB4.out.carry hlow hBN)
    have KR5 := Lib.hid (KR4.out.carry hlow hBN1)
    have hN5 : N ≤ w4b.heap.size := by have := hlow.size; omega
    clear hv hb hrun ho he hep hel hlow HO4 HB4 KB4 KR4 b0 b1 b2
    obtain ⟨b0, b1, b2, -, -, -⟩ := KB5.out.o3
    go_wp2_with (at_builtin; refine wpList_append_run rfl _ _ 22 rfl _ _ _ rfl rfl HRUN.out ?_)
    clear HRUN
    have hl3 : markL ++ enc (n.t.length : Int) ++ enc (n.v.length : Int) ++ enc (n.a.length : Int) = L3 := by rw [← H3.out]; simp [encs, List.append_assoc]
    rw [hl3] at HO5
    clear hl3 hwT hwV hwA m4
    have H0 : Hid (OwnB N w4b v5 (L3 ++ encs ((n.t.take 0).flatMap numsT)) ∧ Below N w4b w4b) := Lib.hid ⟨by simpa [encs] using HO5.out, Below.refl _ _⟩
    clear HO5
    go_loopw [5, 6] (fun b i wr => ∃ (k : Nat), k ≤ n.t.length ∧ i = .int .i64 k ∧ Hid (OwnB N wr b (L3 ++ encs ((n.t.take k).flatMap numsT)) ∧ Below N w4b wr)) (fun _ i _ => n.t.length - (intOf i).toNat)
    case atStart => exact ⟨0, Nat.zero_le _, rfl, H0⟩
    case round =>
      clear H0 b0 b1 b2
      obtain ⟨k, hk, rfl, HR⟩ := hrel
      obtain ⟨b0, b1, b2, -, -, -⟩ := (KB5.out.carry HR.out.2 hBN).o3
      have hbw : Below w.heap.size w wr := HB5.out.trans (HR.out.2.mono hwN)
      by_cases hk1 : k < n.t.length
      · have hki : (k : Int) < n.t.length := by omega
        obtain ⟨bt, ot, uu, hq, y0, y1, y2, hrow⟩ := HNS.out.t.at hk1
        have x0 := (hbw.cell (World.block_lt_of_cell? w _ y0)).trans y0
        have x1 := (hbw.cell (World.block_lt_of_cell? w _ y1)).trans y1
        have x2 := (hbw.cell (World.block_lt_of_cell? w _ y2)).trans y2
        obtain ⟨rq, rc, rfl⟩ := hrow.shape
        have htk : n.t.take (k + 1) = n.t.take k ++ [n.t[k]] := List.take_succ_eq_append_getElem hk1
        have hck := chkT_len (HTG.out n.t[k] (List.getElem_mem hk1))
        obtain ⟨L, hL⟩ : ∃ L, L3 ++ encs ((n.t.take k).flatMap numsT) = L := ⟨_, rfl⟩
        have hll := HL4.out k
        have hO := HR.out.1
        rw [hL] at hll hO
        obtain ⟨⟨X, Y, cs⟩, hX⟩ : ∃ t : Tab, n.t[k] = t := ⟨_, rfl⟩
        rw [hX] at x0 x1 x2 hck htk hrow
        obtain ⟨⟨vx0, vx1⟩, ⟨vy0, vy1⟩, hcl, hcw⟩ := hck
        simp only at x0 x1 x2 vx0 vx1 vy0 vy1 hcl hcw hrow
        have hend : L ++ enc X ++ enc Y ++ encs (cs.map pz) = L3 ++ encs ((n.t.take (k + 1)).flatMap numsT) := by
          rw [htk, List.flatMap_append, encs_append, ← List.append_assoc, hL]
          simp [numsT, encs, List.append_assoc]
        have HEND := Lib.hid hend
        have HLOW := Lib.hid HR.out.2
        have HROW := Lib.hid hrow
        have HCW := Lib.hid hcw
        obtain ⟨G, hG⟩ : ∃ G, wr.heap.size = G := ⟨_, rfl⟩
        obtain ⟨W1, hW1⟩ := named (wr.alloc (.cells #[.int .i64 X, .int .i64 Y, .slice rq cs.length rc] 63))
        have hb1 : Below wr.heap.size wr W1 := by rw [hW1]; exact below_new8 _
        have HO1 := Lib.hid (show OwnB N W1 u5 L from own_below8 hO hb1)
        have hN1 : N ≤ W1.heap.size := by have := HLOW.out.size; have := hb1.size; omega
        have hNw : N ≤ wr.heap.size := by have := HLOW.out.size; omega
        have HL1 := Lib.hid (HLOW.out.trans (hb1.mono hNw))
        have HG1 : Hid (Blk W1 G #[.int .i64 X, .int .i64 Y, .slice rq cs.length rc] 63) := by rw [hW1]; exact Lib.hid (Blk.new _ _ _ _ hG)
        have hwX : IntKind.u64.wrap X = X := wrap_u vx0 (by omega)
        have hwY : IntKind.u64.wrap Y = Y := wrap_u vy0 (by omega)
        have HQ : Hid (0 ≤ X ∧ X ≤ 16 ∧ 0 ≤ Y ∧ Y ≤ 16 ∧ L.length ≤ 1000000) := Lib.hid ⟨vx0, vx1, vy0, vy1, hll⟩
        rw [hq] at b2
        go_upto_region 12 with fail
        rw [← hW1]
        clear hb1 HR hO hend hL hX htk hrow y0 y1 y2 hbw hcw HLOW hNw x0 x1 x2 hW1 hG b0 b1 b2 hq vx0 vx1 vy0 vy1 hll
        refine' GG.wp_thenL _ 11 (GG.CS [5, 10] (fun j => [L, L ++ enc X, L ++ enc X ++ enc Y].getD j []) N W1 u5 G #[.int .i64 X, .int .i64 Y, .slice rq cs.length rc] 63) [[], [], [1], [1, 2], [1, 2, 3], [0, 1, 2, 3, 4], [], [6], [6, 7], [6, 7, 8], [0, 1, 2, 3, 4, 5, 6, 7, 8, 9]] (GG.Fact.lit (Rl := GG.RlC) _ :: GG.Fact.lit (Rl := GG.RlC) _ :: GG.Fact.lit (Rl := GG.RlC) _ :: GG.Fact.lit (Rl := GG.RlC) _ :: GG.Fact.prop (Rl := GG.RlC) _ _ :: GG.Fact.prop (Rl := GG.RlC) _ _ :: GG.Fact.lit (Rl := GG.RlC) _ :: GG.Fact.lit (Rl := GG.RlC) _ :: GG.Fact.lit (Rl := GG.RlC) _ :: GG.Fact.prop (Rl := GG.RlC) _ _ :: GG.Fact.prop (Rl := GG.RlC) _ _ :: []) (by kernel_rfl) rfl (by kernel_rfl) (0, u5) (GG.CS.start rfl HO1.out HG1.out) ?seqra
        case' seqra => skip
        (refine' GG.grow_lit (GG.CS.still _) rfl ?wtra0 ?runra0 ?putra0 ?nextra0; (case wtra0 => rfl); (case runra0 => (intro w' hS; (obtain ⟨dn, s, hS⟩ := hS); (obtain ⟨d0, d1, d2, -⟩ := hS.blk.o3); clear hS; go_simp; first | done | exact rfl)); (case putra0 => (simp only [Act.put, List.setIfInBounds_toArray, List.set_cons_zero, List.set_cons_succ]; first | done | exact rfl)); (case' nextra0 => skip))
        (refine' GG.grow_lit (GG.CS.still _) rfl ?wtra1 ?runra1 ?putra1 ?nextra1; (case wtra1 => rfl); (case runra1 => (intro w' hS; (obtain ⟨dn, s, hS⟩ := hS); (obtain ⟨d0, d1, d2, -⟩ := hS.blk.o3); clear hS; go_simp; first | done | exact rfl)); (case putra1 => (simp only [Act.put, List.setIfInBounds_toArray, List.set_cons_zero, List.set_cons_succ]; first | done | exact rfl)); (case' nextra1 => skip))
        (refine' GG.grow_lit (GG.CS.still _) rfl ?wtra2 ?runra2 ?putra2 ?nextra2; (case wtra2 => rfl); (case runra2 => (intro w' hS; (obtain ⟨dn, s, hS⟩ := hS); (obtain ⟨d0, d1, d2, -⟩ := hS.blk.o3); clear hS; go_simp; first | done | exact rfl)); (case putra2 => (simp only [Act.put, List.setIfInBounds_toArray, List.set_cons_zero, List.set_cons_succ]; first | done | exact rfl)); (case' nextra2 => skip))
        (refine' GG.grow_lit (GG.CS.still _) rfl ?wtra3 ?runra3 ?putra3 ?nextra3; (case wtra3 => rfl); (case runra3 => (intro w' hS; (obtain ⟨dn, s, hS⟩ := hS); (obtain ⟨d0, d1, d2, -⟩ := hS.blk.o3); clear hS; go_simp; first | done | exact rfl)); (case putra3 => (simp only [Act.put, List.setIfInBounds_toArray, List.set_cons_zero, List.set_cons_succ]; first | done | exact rfl)); (case' nextra3 => skip))
        (refine' GG.grow_any_call (p := GG.UF 0 (enc X)) (hp := GG.UF.st) rfl Tryz.func45 (by kernel_rfl) rfl rfl ?wtra4 ?runra4 ?putra4 ?nextra4; (case wtra4 => rfl); (case runra4 => (intro dn s w' hS hd H; exact (ruint_any X _ (by have := HQ.out; omega) (by have := HQ.out; omega)).mono (fun ev w2 h => hS.u h (enc_ne _) 4 0))); (case putra4 => (intro v; (simp only [Act.put, List.setIfInBounds_toArray, List.set_cons_zero, List.set_cons_succ]; first | done | exact rfl))); (case' nextra4 => intro v4))
        (refine' GG.grow_any_op (p := GG.CF 1) (hp := GG.CF.st) rfl ?wtra5 ?runra5 ?putra5 ?nextra5; (case wtra5 => rfl); (case runra5 => (intro dn s w' hS hd H; (obtain ⟨v', s', w2, hr, q⟩ := hS.app (j := 0) hN1 (by decide) rfl hd hS.first (show GG.UF 0 (enc X) v4 s w' from H 4 (by decide)) (enc_ne _) rfl (by have := HQ.out; have := enc_len (X); simp only [List.getD_cons_zero]; omega)); exact ⟨v', s', w2, GG.exec_append (.tmp 56) (.tmp 60) 22 rfl rfl rfl hr, q⟩)); (case putra5 => (intro v; (simp only [Act.put, List.setIfInBounds_toArray, List.set_cons_zero, List.set_cons_succ]; first | done | exact rfl))); (case' nextra5 => intro v5))
        (refine' GG.grow_lit (GG.CS.still _) rfl ?wtra6 ?runra6 ?putra6 ?nextra6; (case wtra6 => rfl); (case runra6 => (intro w' hS; (obtain ⟨dn, s, hS⟩ := hS); (obtain ⟨d0, d1, d2, -⟩ := hS.blk.o3); clear hS; go_simp; first | done | exact rfl)); (case putra6 => (simp only [Act.put, List.setIfInBounds_toArray, List.set_cons_zero, List.set_cons_succ]; first | done | exact rfl)); (case' nextra6 => skip))
        (refine' GG.grow_lit (GG.CS.still _) rfl ?wtra7 ?runra7 ?putra7 ?nextra7; (case wtra7 => rfl); (case runra7 => (intro w' hS; (obtain ⟨dn, s, hS⟩ := hS); (obtain ⟨d0, d1, d2, -⟩ := hS.blk.o3); clear hS; go_simp; first | done | exact rfl)); (case putra7 => (simp only [Act.put, List.setIfInBounds_toArray, List.set_cons_zero, List.set_cons_succ]; first | done | exact rfl)); (case' nextra7 => skip))
        (refine' GG.grow_lit (GG.CS.still _) rfl ?wtra8 ?runra8 ?putra8 ?nextra8; (case wtra8 => rfl); (case runra8 => (intro w' hS; (obtain ⟨dn, s, hS⟩ := hS); (obtain ⟨d0, d1, d2, -⟩ := hS.blk.o3); clear hS; go_simp; first | done | exact rfl)); (case putra8 => (simp only [Act.put, List.setIfInBounds_toArray, List.set_cons_zero, List.set_cons_succ]; first | done | exact rfl)); (case' nextra8 => skip))
        (refine' GG.grow_any_call (p := GG.UF 1 (enc Y)) (hp := GG.UF.st) rfl Tryz.func45 (by kernel_rfl) rfl rfl ?wtra9 ?runra9 ?putra9 ?nextra9; (case wtra9 => rfl); (case runra9 => (intro dn s w' hS hd H; exact (ruint_any Y _ (by have := HQ.out; omega) (by have := HQ.out; omega)).mono (fun ev w2 h => hS.u h (enc_ne _) 9 1))); (case putra9 => (intro v; (simp only [Act.put, List.setIfInBounds_toArray, List.set_cons_zero, List.set_cons_succ]; first | done | exact rfl))); (case' nextra9 => intro v9))
        (refine' GG.grow_any_op (p := GG.CF 2) (hp := GG.CF.st) rfl ?wtra10 ?runra10 ?putra10 ?nextra10; (case wtra10 => rfl); (case runra10 => (intro dn s w' hS hd H; (obtain ⟨v', s', w2, hr, q⟩ := hS.app (j := 1) hN1 (by decide) rfl hd (show GG.CF 1 v5 s w' from H 5 (by decide)) (show GG.UF 1 (enc Y) v9 s w' from H 9 (by decide)) (enc_ne _) rfl (by have := HQ.out; have := enc_len (X); have := enc_len (Y); simp only [List.getD_cons_zero, List.getD_cons_succ, List.length_append]; omega)); exact ⟨v', s', w2, GG.exec_append (.tmp 61) (.tmp 65) 22 rfl rfl rfl hr, q⟩)); (case putra10 => (intro v; (simp only [Act.put, List.setIfInBounds_toArray, List.set_cons_zero, List.set_cons_succ]; first | done | exact rfl))); (case' nextra10 => intro v10))
        intro dn s w9 hS hdn hk9
        have h10 : GG.CF 2 v10 s w9 := hk9 10 (by decide)
        have HG9 := Lib.hid hS.blk
        obtain ⟨ho, he⟩ := hS.last rfl h10
        obtain ⟨L2, hL2⟩ : ∃ M, L ++ enc X ++ enc Y = M := ⟨_, rfl⟩
        have ho' : OwnB N w9 v10 L2 := by rw [← hL2]; exact ho
        rw [hL2] at HEND
        have hll2 : L2.length ≤ 1000020 := by rw [← hL2, List.length_append, List.length_append]; have := HQ.out; have := enc_len X; have := enc_len Y; omega
        have H1 : Hid (OwnB N w9 v10 (L2 ++ encs ((cs.take 0).map pz)) ∧ Below N w4b w9 ∧ Blk w9 G #[.int .i64 X, .int .i64 Y, .slice rq cs.length rc] 63) := Lib.hid ⟨by simpa [encs] using ho', HL1.out.trans (he.low HO1.out.ge hN1), HG9.out⟩
        clear hS hdn hk9 h10 ho he ho' HO1 HG1 HL1 HG9 hL2 HQ hwX hwY hN1
        refine wpAny_ready (rs := [11]) (by kernel_rfl) (by simp) (AllReady.cons rfl (fun K hK => ?_) AllReady.nil)
        go_simp
        refine hK _ _ ?_
        clear hK K
        refine wpAny_done (by kernel_rfl) ?_ _
        go_wp2_with fail
        go_loopw [5, 8] (fun b i wq => ∃ (j : Nat), j ≤ cs.length ∧ i = .int .i64 j ∧ Hid (OwnB N wq b (L2 ++ encs ((cs.take j).map pz)) ∧ Below N w4b wq ∧ Blk wq G #[.int .i64 X, .int .i64 Y, .slice rq cs.length rc] 63)) (fun _ i _ => cs.length - (intOf i).toNat)
        case atStart => exact ⟨0, Nat.zero_le _, rfl, H1⟩
        case round =>
          clear H1
          obtain ⟨j, hj, rfl, HR⟩ := hrel
          obtain ⟨g0, g1, g2, -, -, -⟩ := HR.out.2.2.o3
          by_cases hj1 : j < cs.length
          · have hji : (j : Int) < cs.length := by omega
            have hbw : Below w.heap.size w wr := HB5.out.trans (HR.out.2.1.mono hwN)
            obtain ⟨bc, oc, hqc, hcell⟩ := (HROW.out.below hbw).at hj1
            have hst : (cs.take (j + 1)).map pz = (cs.take j).map pz ++ [pz cs[j]] := by rw [List.take_succ_eq_append_getElem hj1, List.map_append]; rfl
            have hwj := HCW.out cs[j] (List.getElem_mem hj1)
            obtain ⟨C, hC⟩ : ∃ C, cs[j] = C := ⟨_, rfl⟩
            rw [hC] at hcell hst hwj
            rw [hqc] at g2
            have HST := Lib.hid hst
            have HWJ := Lib.hid hwj
            have hlj : (L2 ++ encs ((cs.take j).map pz)).length ≤ 2000000 := by
              have h1 := encs_len ((cs.take j).map pz)
              rw [List.length_map, List.length_take] at h1
              rw [List.length_append]
              omega
            clear hst hwj hC hbw
            go_wp2_with fail
            refine (rprice_any HWJ.out _).mono ?_
            rintro ev w4 ⟨v, z, rfl, hv, -, hb⟩
            have hsz : N ≤ w4.heap.size := by have := HR.out.2.1.size; have := hb.size; omega
            have hel := enc_len (pz C)
            obtain ⟨v4, w4', hrun, ho, he⟩ := BufV.app (Or.inl (own_below8 HR.out.1 hb)) hsz ⟨z, hv⟩ (enc_ne _) (by omega)
            have HRUN := Lib.hid hrun
            have hep := (Ext.below _ hb).trans he
            have HN : Hid (OwnB N w4' v4 (L2 ++ encs ((cs.take (j + 1)).map pz)) ∧ Below N w4b w4' ∧ Blk w4' G #[.int .i64 X, .int .i64 Y, .slice rq cs.length rc] 63) := by
              rw [HST.out, encs_snoc, ← List.append_assoc]
              exact Lib.hid ⟨ho, HR.out.2.1.trans (hep.low HR.out.1.ge (by have := HR.out.2.1.size; omega)), hep.blk HR.out.2.2 (HR.out.1.ne HR.out.2.2 (by decide))⟩
            clear hv hb hrun ho he hep hsz hel HR hcell g0 g1 g2 hqc hlj
            go_wp2_with (at_builtin; refine wpList_append_run rfl _ _ 22 rfl _ _ _ rfl rfl HRUN.out ?_)
            go_wp2_with fail
            go_roundw
            case rel => exact ⟨j + 1, by omega, by go_num, HN⟩
            case measure => simp [intOf]; omega
          · obtain rfl : j = cs.length := by omega
            have hf := HR.out
            rw [List.take_length, HEND.out] at hf
            have HN : Hid (OwnB N wr u5 (L3 ++ encs ((n.t.take (k + 1)).flatMap numsT)) ∧ Below N w4b wr) := Lib.hid ⟨hf.1, hf.2.1⟩
            clear hf HR
            go_wp2_with fail
            go_roundw
            case rel => exact ⟨k + 1, by omega, by go_num, HN⟩
            case measure => simp [intOf]; omega
      · obtain rfl : k = n.t.length := by omega
        have hf := HR.out
        rw [List.take_length, H4.out] at hf
        have H0 : Hid (OwnB N wr u5 (L4 ++ encs (numsV 0 0 (n.v.take 0))) ∧ Below N w4b wr) := Lib.hid ⟨by simpa [encs, numsV] using hf.1, hf.2⟩
        clear hf HR hbw
        go_wp2_with fail
        have E0 : (lastXY (n.v.take 0)).1 = 0 ∧ (lastXY (n.v.take 0)).2 = 0 := ⟨rfl, rfl⟩
        have HE0 := Lib.hid E0
        clear E0
        go_loopw [5, 9, 10, 11] (fun b xv yv i wr => ∃ (k : Nat), k ≤ n.v.length ∧ i = .int .i64 k ∧ xv = .int .i64 (lastXY (n.v.take k)).1 ∧ yv = .int .i64 (lastXY (n.v.take k)).2 ∧ Hid (OwnB N wr b (L4 ++ encs (numsV 0 0 (n.v.take k))) ∧ Below N w4b wr)) (fun _ _ _ i _ => n.v.length - (intOf i).toNat)
        case atStart => exact ⟨0, Nat.zero_le _, rfl, by rw [HE0.out.1], by rw [HE0.out.2], H0⟩
        case round =>
          clear H0 b0 b1 b2 HE0
          obtain ⟨k, hk, rfl, rfl, rfl, HR⟩ := hrel
          obtain ⟨b0, b1, b2, -, -, -⟩ := (KB5.out.carry HR.out.2 hBN).o3
          have hbw : Below w.heap.size w wr := HB5.out.trans (HR.out.2.mono hwN)
          by_cases hk1 : k < n.v.length
          · have hki : (k : Int) < n.v.length := by omega
            obtain ⟨bt, ot, hq, x0, x1, x2⟩ := (HNS.out.v.below hbw).at hk1
            have htk : n.v.take (k + 1) = n.v.take k ++ [n.v[k]] := List.take_succ_eq_append_getElem hk1
            have hnv := numsV_last (n.v.take k) n.v[k]
            rw [← htk] at hnv
            have hxy := lastXY_snoc (n.v.take k) n.v[k]
            rw [← htk] at hxy
            have hlb := lastXY_in (L := n.v.take k) (fun v hv => HVG.out v (List.mem_of_mem_take hv))
            have hvk := HVG.out n.v[k] (List.getElem_mem hk1)
            obtain ⟨L, hL⟩ : ∃ L, L4 ++ encs (numsV 0 0 (n.v.take k)) = L := ⟨_, rfl⟩
            have hll := HL5.out k
            have hO := HR.out.1
            rw [hL] at hll hO
            obtain ⟨ax, hax⟩ : ∃ ax, (lastXY (n.v.take k)).1 = ax := ⟨_, rfl⟩
            obtain ⟨ay, hay⟩ : ∃ ay, (lastXY (n.v.take k)).2 = ay := ⟨_, rfl⟩
            rw [hax, hay] at hlb hnv
            rw [hax, hay]
            obtain ⟨⟨X, Y, Z⟩, hX⟩ : ∃ t : Tri, n.v[k] = t := ⟨_, rfl⟩
            rw [hX] at x0 x1 x2 hnv hxy hvk
            obtain ⟨⟨vx0, vx1⟩, ⟨vy0, vy1⟩, vz0, vz1⟩ := hvk
            obtain ⟨⟨ax0, ax1⟩, ay0, ay1⟩ := hlb
            simp only at x0 x1 x2 hnv hxy vx0 vx1 vy0 vy1 vz0 vz1
            obtain ⟨DX, hDX⟩ : ∃ D, X - ax = D := ⟨_, rfl⟩
            obtain ⟨DY, hDY⟩ : ∃ D, Y - ay = D := ⟨_, rfl⟩
            rw [hDX, hDY] at hnv
            have hend : L ++ enc (foldZ DX) ++ enc (foldZ DY) ++ enc Z = L4 ++ encs (numsV 0 0 (n.v.take (k + 1))) := by
              rw [hnv, encs_append, ← List.append_assoc, hL]
              simp [encs, List.append_assoc]
            have HEND := Lib.hid hend
            have HXY := Lib.hid hxy
            have HLOW := Lib.hid HR.out.2
            have hwDX : IntKind.i64.wrap (X - ax) = DX := by rw [wrap_small (by omega) (by omega), hDX]
            have hwDY : IntKind.i64.wrap (Y - ay) = DY := by rw [wrap_small (by omega) (by omega), hDY]
            have hwZ : IntKind.u64.wrap Z = Z := wrap_u vz0 (by omega)
            have HQ : Hid (-9223372036854775808 ≤ DX ∧ DX ≤ 9223372036854775807 ∧ -9223372036854775808 ≤ DY ∧ DY ≤ 9223372036854775807 ∧ 0 ≤ Z ∧ Z ≤ 16384 ∧ L.length ≤ 2000000) := Lib.hid ⟨by omega, by omega, by omega, by omega, vz0, vz1, hll⟩
            obtain ⟨G, hG⟩ : ∃ G, wr.heap.size = G := ⟨_, rfl⟩
            obtain ⟨W1, hW1⟩ := named (wr.alloc (.cells #[.int .i64 X, .int .i64 Y, .int .i64 Z] 58))
            have hb1 : Below wr.heap.size wr W1 := by rw [hW1]; exact below_new8 _
            have HO1 := Lib.hid (show OwnB N W1 u5 L from own_below8 hO hb1)
            have hN1 : N ≤ W1.heap.size := by have := HLOW.out.size; have := hb1.size; omega
            have hNw : N ≤ wr.heap.size := by have := HLOW.out.size; omega
            have HL1 := Lib.hid (HLOW.out.trans (hb1.mono hNw))
            have HG1 : Hid (Blk W1 G #[.int .i64 X, .int .i64 Y, .int .i64 Z] 58) := by rw [hW1]; exact Lib.hid (Blk.new _ _ _ _ hG)
            rw [hq] at b0
            go_upto_region 23 with fail
            rw [← hW1]
            clear hb1 HR hO hend hL hX htk hbw HLOW hNw x0 x1 x2 hW1 hG b0 b1 b2 hq vx0 vx1 vy0 vy1 vz0 vz1 ax0 ax1 ay0 ay1 hll hnv hxy hax hay hDX hDY
            refine' GG.wp_thenL _ 18 (GG.CS [6, 12, 17] (fun j => [L, L ++ enc (foldZ DX), L ++ enc (foldZ DX) ++ enc (foldZ DY), L ++ enc (foldZ DX) ++ enc (foldZ DY) ++ enc Z].getD j []) N W1 u5 G #[.int .i64 X, .int .i64 Y, .int .i64 Z] 58) [[], [], [1], [], [1, 2, 3], [1, 2, 3, 4], [0, 1, 2, 3, 4, 5], [], [7], [], [7, 8, 9], [7, 8, 9, 10], [0, 1, 2, 3, 4, 5, 6, 7, 8, 9, 10, 11], [], [13], [13, 14], [13, 14, 15], [0, 1, 2, 3, 4, 5, 6, 7, 8, 9, 10, 11, 12, 13, 14, 15, 16]] (GG.Fact.lit (Rl := GG.RlC) _ :: GG.Fact.lit (Rl := GG.RlC) _ :: GG.Fact.lit (Rl := GG.RlC) _ :: GG.Fact.lit (Rl := GG.RlC) _ :: GG.Fact.lit (Rl := GG.RlC) _ :: GG.Fact.prop (Rl := GG.RlC) _ _ :: GG.Fact.prop (Rl := GG.RlC) _ _ :: GG.Fact.lit (Rl := GG.RlC) _ :: GG.Fact.lit (Rl := GG.RlC) _ :: GG.Fact.lit (Rl := GG.RlC) _ :: GG.Fact.lit (Rl := GG.RlC) _ :: GG.Fact.prop (Rl := GG.RlC) _ _ :: GG.Fact.prop (Rl := GG.RlC) _ _ :: GG.Fact.lit (Rl := GG.RlC) _ :: GG.Fact.lit (Rl := GG.RlC) _ :: GG.Fact.lit (Rl := GG.RlC) _ :: GG.Fact.prop (Rl := GG.RlC) _ _ :: GG.Fact.prop (Rl := GG.RlC) _ _ :: []) (by kernel_rfl) rfl (by kernel_rfl) (0, u5) (GG.CS.start rfl HO1.out HG1.out) ?seqrb
            case' seqrb => skip
            (refine' GG.grow_lit (GG.CS.still _) rfl ?wtrb0 ?runrb0 ?putrb0 ?nextrb0; (case wtrb0 => rfl); (case runrb0 => (intro w' hS; (obtain ⟨dn, s, hS⟩ := hS); (obtain ⟨d0, d1, d2, -⟩ := hS.blk.o3); clear hS; go_simp; first | done | exact rfl)); (case putrb0 => (simp only [Act.put, List.setIfInBounds_toArray, List.set_cons_zero, List.set_cons_succ]; first | done | exact rfl)); (case' nextrb0 => skip))
            (refine' GG.grow_lit (GG.CS.still _) rfl ?wtrb1 ?runrb1 ?putrb1 ?nextrb1; (case wtrb1 => rfl); (case runrb1 => (intro w' hS; (obtain ⟨dn, s, hS⟩ := hS); (obtain ⟨d0, d1, d2, -⟩ := hS.blk.o3); clear hS; go_simp; first | done | exact rfl)); (case putrb1 => (simp only [Act.put, List.setIfInBounds_toArray, List.set_cons_zero, List.set_cons_succ]; first | done | exact rfl)); (case' nextrb1 => skip))
            (refine' GG.grow_lit (GG.CS.still _) rfl ?wtrb2 ?runrb2 ?putrb2 ?nextrb2; (case wtrb2 => rfl); (case runrb2 => (intro w' hS; (obtain ⟨dn, s, hS⟩ := hS); (obtain ⟨d0, d1, d2, -⟩ := hS.blk.o3); clear hS; go_simp; first | done | exact rfl)); (case putrb2 => (simp only [Act.put, List.setIfInBounds_toArray, List.set_cons_zero, List.set_cons_succ]; first | done | exact rfl)); (case' nextrb2 => skip))
            (refine' GG.grow_lit (GG.CS.still _) rfl ?wtrb3 ?runrb3 ?putrb3 ?nextrb3; (case wtrb3 => rfl); (case runrb3 => (intro w' hS; (obtain ⟨dn, s, hS⟩ := hS); (obtain ⟨d0, d1, d2, -⟩ := hS.blk.o3); clear hS; go_simp; first | done | exact rfl)); (case putrb3 => (simp only [Act.put, List.setIfInBounds_toArray, List.set_cons_zero, List.set_cons_succ]; first | done | exact rfl)); (case' nextrb3 => skip))
            (refine' GG.grow_lit (GG.CS.still _) rfl ?wtrb4 ?runrb4 ?putrb4 ?nextrb4; (case wtrb4 => rfl); (case runrb4 => (intro w' hS; (obtain ⟨dn, s, hS⟩ := hS); (obtain ⟨d0, d1, d2, -⟩ := hS.blk.o3); clear hS; go_simp; first | done | exact rfl)); (case putrb4 => (simp only [Act.put, List.setIfInBounds_toArray, List.set_cons_zero, List.set_cons_succ]; first | done | exact rfl)); (case' nextrb4 => skip))
            (refine' GG.grow_any_call (p := GG.UF 0 (enc (foldZ DX))) (hp := GG.UF.st) rfl Tryz.func47 (by kernel_rfl) rfl rfl ?wtrb5 ?runrb5 ?putrb5 ?nextrb5; (case wtrb5 => rfl); (case runrb5 => (intro dn s w' hS hd H; exact (rint_any DX _ (by have := HQ.out; omega) (by have := HQ.out; omega)).mono (fun ev w2 h => hS.u h (enc_ne _) 5 0))); (case putrb5 => (intro v; (simp only [Act.put, List.setIfInBounds_toArray, List.set_cons_zero, List.set_cons_succ]; first | done | exact rfl))); (case' nextrb5 => intro v5))
            (refine' GG.grow_any_op (p := GG.CF 1) (hp := GG.CF.st) rfl ?wtrb6 ?runrb6 ?putrb6 ?nextrb6; (case wtrb6 => rfl); (case runrb6 => (intro dn s w' hS hd H; (obtain ⟨v', s', w2, hr, q⟩ := hS.app (j := 0) hN1 (by decide) rfl hd hS.first (show GG.UF 0 (enc (foldZ DX)) v5 s w' from H 5 (by decide)) (enc_ne _) rfl (by have := HQ.out; have := enc_len (foldZ DX); simp only [List.getD_cons_zero]; omega)); exact ⟨v', s', w2, GG.exec_append (.tmp 94) (.tmp 99) 22 rfl rfl rfl hr, q⟩)); (case putrb6 => (intro v; (simp only [Act.put, List.setIfInBounds_toArray, List.set_cons_zero, List.set_cons_succ]; first | done | exact rfl))); (case' nextrb6 => intro v6))
            (refine' GG.grow_lit (GG.CS.still _) rfl ?wtrb7 ?runrb7 ?putrb7 ?nextrb7; (case wtrb7 => rfl); (case runrb7 => (intro w' hS; (obtain ⟨dn, s, hS⟩ := hS); (obtain ⟨d0, d1, d2, -⟩ := hS.blk.o3); clear hS; go_simp; first | done | exact rfl)); (case putrb7 => (simp only [Act.put, List.setIfInBounds_toArray, List.set_cons_zero, List.set_cons_succ]; first | done | exact rfl)); (case' nextrb7 => skip))
            (refine' GG.grow_lit (GG.CS.still _) rfl ?wtrb8 ?runrb8 ?putrb8 ?nextrb8; (case wtrb8 => rfl); (case runrb8 => (intro w' hS; (obtain ⟨dn, s, hS⟩ := hS); (obtain ⟨d0, d1, d2, -⟩ := hS.blk.o3); clear hS; go_simp; first | done | exact rfl)); (case putrb8 => (simp only [Act.put, List.setIfInBounds_toArray, List.set_cons_zero, List.set_cons_succ]; first | done | exact rfl)); (case' nextrb8 => skip))
            (refine' GG.grow_lit (GG.CS.still _) rfl ?wtrb9 ?runrb9 ?putrb9 ?nextrb9; (case wtrb9 => rfl); (case runrb9 => (intro w' hS; (obtain ⟨dn, s, hS⟩ := hS); (obtain ⟨d0, d1, d2, -⟩ := hS.blk.o3); clear hS; go_simp; first | done | exact rfl)); (case putrb9 => (simp only [Act.put, List.setIfInBounds_toArray, List.set_cons_zero, List.set_cons_succ]; first | done | exact rfl)); (case' nextrb9 => skip))
            (refine' GG.grow_lit (GG.CS.still _) rfl ?wtrb10 ?runrb10 ?putrb10 ?nextrb10; (case wtrb10 => rfl); (case runrb10 => (intro w' hS; (obtain ⟨dn, s, hS⟩ := hS); (obtain ⟨d0, d1, d2, -⟩ := hS.blk.o3); clear hS; go_simp; first | done | exact rfl)); (case putrb10 => (simp only [Act.put, List.setIfInBounds_toArray, List.set_cons_zero, List.set_cons_succ]; first | done | exact rfl)); (case' nextrb10 => skip))
            (refine' GG.grow_any_call (p := GG.UF 1 (enc (foldZ DY))) (hp := GG.UF.st) rfl Tryz.func47 (by kernel_rfl) rfl rfl ?wtrb11 ?runrb11 ?putrb11 ?nextrb11; (case wtrb11 => rfl); (case runrb11 => (intro dn s w' hS hd H; exact (rint_any DY _ (by have := HQ.out; omega) (by have := HQ.out; omega)).mono (fun ev w2 h => hS.u h (enc_ne _) 11 1))); (case putrb11 => (intro v; (simp only [Act.put, List.setIfInBounds_toArray, List.set_cons_zero, List.set_cons_succ]; first | done | exact rfl))); (case' nextrb11 => intro v11))
            (refine' GG.grow_any_op (p := GG.CF 2) (hp := GG.CF.st) rfl ?wtrb12 ?runrb12 ?putrb12 ?nextrb12; (case wtrb12 => rfl); (case runrb12 => (intro dn s w' hS hd H; (obtain ⟨v', s', w2, hr, q⟩ := hS.app (j := 1) hN1 (by decide) rfl hd (show GG.CF 1 v6 s w' from H 6 (by decide)) (show GG.UF 1 (enc (foldZ DY)) v11 s w' from H 11 (by decide)) (enc_ne _) rfl (by have := HQ.out; have := enc_len (foldZ DX); have := enc_len (foldZ DY); simp only [List.getD_cons_zero, List.getD_cons_succ, List.length_append]; omega)); exact ⟨v', s', w2, GG.exec_append (.tmp 100) (.tmp 105) 22 rfl rfl rfl hr, q⟩)); (case putrb12 => (intro v; (simp only [Act.put, List.setIfInBounds_toArray, List.set_cons_zero, List.set_cons_succ]; first | done | exact rfl))); (case' nextrb12 => intro v12))
            (refine' GG.grow_lit (GG.CS.still _) rfl ?wtrb13 ?runrb13 ?putrb13 ?nextrb13; (case wtrb13 => rfl); (case runrb13 => (intro w' hS; (obtain ⟨dn, s, hS⟩ := hS); (obtain ⟨d0, d1, d2, -⟩ := hS.blk.o3); clear hS; go_simp; first | done | exact rfl)); (case putrb13 => (simp only [Act.put, List.setIfInBounds_toArray, List.set_cons_zero, List.set_cons_succ]; first | done | exact rfl)); (case' nextrb13 => skip))
            (refine' GG.grow_lit (GG.CS.still _) rfl ?wtrb14 ?runrb14 ?putrb14 ?nextrb14; (case wtrb14 => rfl); (case runrb14 => (intro w' hS; (obtain ⟨dn, s, hS⟩ := hS); (obtain ⟨d0, d1, d2, -⟩ := hS.blk.o3); clear hS; go_simp; first | done | exact rfl)); (case putrb14 => (simp only [Act.put, List.setIfInBounds_toArray, List.set_cons_zero, List.set_cons_succ]; first | done | exact rfl)); (case' nextrb14 => skip))
            (refine' GG.grow_lit (GG.CS.still _) rfl ?wtrb15 ?runrb15 ?putrb15 ?nextrb15; (case wtrb15 => rfl); (case runrb15 => (intro w' hS; (obtain ⟨dn, s, hS⟩ := hS); (obtain ⟨d0, d1, d2, -⟩ := hS.blk.o3); clear hS; go_simp; first | done | exact rfl)); (case putrb15 => (simp only [Act.put, List.setIfInBounds_toArray, List.set_cons_zero, List.set_cons_succ]; first | done | exact rfl)); (case' nextrb15 => skip))
            (refine' GG.grow_any_call (p := GG.UF 2 (enc Z)) (hp := GG.UF.st) rfl Tryz.func45 (by kernel_rfl) rfl rfl ?wtrb16 ?runrb16 ?putrb16 ?nextrb16; (case wtrb16 => rfl); (case runrb16 => (intro dn s w' hS hd H; exact (ruint_any Z _ (by have := HQ.out; omega) (by have := HQ.out; omega)).mono (fun ev w2 h => hS.u h (enc_ne _) 16 2))); (case putrb16 => (intro v; (simp only [Act.put, List.setIfInBounds_toArray, List.set_cons_zero, List.set_cons_succ]; first | done | exact rfl))); (case' nextrb16 => intro v16))
            (refine' GG.grow_any_op (p := GG.CF 3) (hp := GG.CF.st) rfl ?wtrb17 ?runrb17 ?putrb17 ?nextrb17; (case wtrb17 => rfl); (case runrb17 => (intro dn s w' hS hd H; (obtain ⟨v', s', w2, hr, q⟩ := hS.app (j := 2) hN1 (by decide) rfl hd (show GG.CF 2 v12 s w' from H 12 (by decide)) (show GG.UF 2 (enc Z) v16 s w' from H 16 (by decide)) (enc_ne _) rfl (by have := HQ.out; have := enc_len (foldZ DX); have := enc_len (foldZ DY); have := enc_len (Z); simp only [List.getD_cons_zero, List.getD_cons_succ, List.length_append]; omega)); exact ⟨v', s', w2, GG.exec_append (.tmp 106) (.tmp 110) 22 rfl rfl rfl hr, q⟩)); (case putrb17 => (intro v; (simp only [Act.put, List.setIfInBounds_toArray, List.set_cons_zero, List.set_cons_succ]; first | done | exact rfl))); (case' nextrb17 => intro v17))
            intro dn s w9 hS hdn hk9
            have h17 : GG.CF 3 v17 s w9 := hk9 17 (by decide)
            have HG9 := Lib.hid hS.blk
            obtain ⟨ho, he⟩ := hS.last rfl h17
            have HN : Hid (OwnB N w9 v17 (L4 ++ encs (numsV 0 0 (n.v.take (k + 1)))) ∧ Below N w4b w9) := Lib.hid ⟨by rw [← HEND.out]; exact ho, HL1.out.trans (he.low HO1.out.ge hN1)⟩
            clear hS hdn hk9 h17 ho he HO1 HG1 HL1 HEND HQ hwDX hwDY hwZ hN1
            obtain ⟨g0, g1, g2, -, -, -⟩ := HG9.out.o3
            refine wpAny_ready (rs := [18]) (by kernel_rfl) (by simp) (AllReady.cons rfl (fun K hK => ?_) AllReady.nil)
            go_simp
            refine hK _ _ ?_
            clear hK K
            refine wpAny_done (by kernel_rfl) ?_ _
            go_wp2_with fail
            go_roundw
            case rel => exact ⟨k + 1, by omega, by go_num, by rw [HXY.out], by rw [HXY.out], HN⟩
            case measure => simp [intOf]; omega
          · obtain rfl : k = n.v.length := by omega
            generalize (lastXY (n.v.take n.v.length)).1 = ax
            generalize (lastXY (n.v.take n.v.length)).2 = ay
            have hf := HR.out
            rw [List.take_length, H5.out] at hf
            have H0 : Hid (OwnB N wr u5 (L5 ++ encs ((n.a.take 0).flatMap numsA)) ∧ Below N w4b wr) := Lib.hid ⟨by simpa [encs] using hf.1, hf.2⟩
            clear hf HR hbw
            go_wp2_with fail
            go_loopw [5, 13] (fun b i wr => ∃ (k : Nat), k ≤ n.a.length ∧ i = .int .i64 k ∧ Hid (OwnB N wr b (L5 ++ encs ((n.a.take k).flatMap numsA)) ∧ Below N w4b wr)) (fun _ i _ => n.a.length - (intOf i).toNat)
            case atStart => exact ⟨0, Nat.zero_le _, rfl, H0⟩
            case round =>
              clear H0 b0 b1 b2
              obtain ⟨k, hk, rfl, HR⟩ := hrel
              obtain ⟨b0, b1, b2, -, -, -⟩ := (KB5.out.carry HR.out.2 hBN).o3
              have hbw : Below w.heap.size w wr := HB5.out.trans (HR.out.2.mono hwN)
              by_cases hk1 : k < n.a.length
              · have hki : (k : Int) < n.a.length := by omega
                obtain ⟨bt, ot, hq, x0, x1, x2⟩ := (HNS.out.a.below hbw).at hk1
                have htk : n.a.take (k + 1) = n.a.take k ++ [n.a[k]] := List.take_succ_eq_append_getElem hk1
                have hvk := HAG.out n.a[k] (List.getElem_mem hk1)
                obtain ⟨L, hL⟩ : ∃ L, L5 ++ encs ((n.a.take k).flatMap numsA) = L := ⟨_, rfl⟩
                have hll := HL6.out k
                have hO := HR.out.1
                rw [hL] at hll hO
                obtain ⟨⟨X, Y, Z⟩, hX⟩ : ∃ t : Tri, n.a[k] = t := ⟨_, rfl⟩
                rw [hX] at x0 x1 x2 hvk htk
                obtain ⟨⟨vx0, vx1⟩, ⟨vy0, vy1⟩, vz⟩ := hvk
                simp only at x0 x1 x2 vx0 vx1 vy0 vy1 vz
                have hend : L ++ enc X ++ enc Y ++ enc (pz Z) = L5 ++ encs ((n.a.take (k + 1)).flatMap numsA) := by
                  rw [htk, List.flatMap_append, encs_append, ← List.append_assoc, hL]
                  simp [encs, numsA, List.append_assoc]
                have HEND := Lib.hid hend
                have HLOW := Lib.hid HR.out.2
                have HZ := Lib.hid vz
                have hwX : IntKind.u64.wrap X = X := wrap_u vx0 (by omega)
                have hwY : IntKind.u64.wrap Y = Y := wrap_u vy0 (by omega)
                have HQ : Hid (0 ≤ X ∧ X ≤ 16384 ∧ 0 ≤ Y ∧ Y ≤ 16384 ∧ L.length ≤ 4000000) := Lib.hid ⟨vx0, vx1, vy0, vy1, hll⟩
                obtain ⟨G, hG⟩ : ∃ G, wr.heap.size = G := ⟨_, rfl⟩
                obtain ⟨W1, hW1⟩ := named (wr.alloc (.cells #[.int .i64 X, .int .i64 Y, .int .i64 Z] 60))
                have hb1 : Below wr.heap.size wr W1 := by rw [hW1]; exact below_new8 _
                have HO1 := Lib.hid (show OwnB N W1 u5 L from own_below8 hO hb1)
                have hN1 : N ≤ W1.heap.size := by have := HLOW.out.size; have := hb1.size; omega
                have hNw : N ≤ wr.heap.size := by have := HLOW.out.size; omega
                have HL1 := Lib.hid (HLOW.out.trans (hb1.mono hNw))
                have HG1 : Hid (Blk W1 G #[.int .i64 X, .int .i64 Y, .int .i64 Z] 60) := by rw [hW1]; exact Lib.hid (Blk.new _ _ _ _ hG)
                rw [hq] at b1
                go_upto_region 30 with fail
                rw [← hW1]
                clear hb1 HR hO hend hL hX htk hbw HLOW hNw x0 x1 x2 hW1 hG b0 b1 b2 hq vx0 vx1 vy0 vy1 vz hll
                refine' GG.wp_thenL _ 15 (GG.CS [5, 10, 14] (fun j => [L, L ++ enc X, L ++ enc X ++ enc Y, L ++ enc X ++ enc Y ++ enc (pz Z)].getD j []) N W1 u5 G #[.int .i64 X, .int .i64 Y, .int .i64 Z] 60) [[], [], [1], [1, 2], [1, 2, 3], [0, 1, 2, 3, 4], [], [6], [6, 7], [6, 7, 8], [0, 1, 2, 3, 4, 5, 6, 7, 8, 9], [], [11], [11, 12], [0, 1, 2, 3, 4, 5, 6, 7, 8, 9, 10, 11, 12, 13]] (GG.Fact.lit (Rl := GG.RlC) _ :: GG.Fact.lit (Rl := GG.RlC) _ :: GG.Fact.lit (Rl := GG.RlC) _ :: GG.Fact.lit (Rl := GG.RlC) _ :: GG.Fact.prop (Rl := GG.RlC) _ _ :: GG.Fact.prop (Rl := GG.RlC) _ _ :: GG.Fact.lit (Rl := GG.RlC) _ :: GG.Fact.lit (Rl := GG.RlC) _ :: GG.Fact.lit (Rl := GG.RlC) _ :: GG.Fact.prop (Rl := GG.RlC) _ _ :: GG.Fact.prop (Rl := GG.RlC) _ _ :: GG.Fact.lit (Rl := GG.RlC) _ :: GG.Fact.lit (Rl := GG.RlC) _ :: GG.Fact.prop (Rl := GG.RlC) _ _ :: GG.Fact.prop (Rl := GG.RlC) _ _ :: []) (by kernel_rfl) rfl (by kernel_rfl) (0, u5) (GG.CS.start rfl HO1.out HG1.out) ?seqrc
                case' seqrc => skip
                (refine' GG.grow_lit (GG.CS.still _) rfl ?wtrc0 ?runrc0 ?putrc0 ?nextrc0; (case wtrc0 => rfl); (case runrc0 => (intro w' hS; (obtain ⟨dn, s, hS⟩ := hS); (obtain ⟨d0, d1, d2, -⟩ := hS.blk.o3); clear hS; go_simp; first | done | exact rfl)); (case putrc0 => (simp only [Act.put, List.setIfInBounds_toArray, List.set_cons_zero, List.set_cons_succ]; first | done | exact rfl)); (case' nextrc0 => skip))
                (refine' GG.grow_lit (GG.CS.still _) rfl ?wtrc1 ?runrc1 ?putrc1 ?nextrc1; (case wtrc1 => rfl); (case runrc1 => (intro w' hS; (obtain ⟨dn, s, hS⟩ := hS); (obtain ⟨d0, d1, d2, -⟩ := hS.blk.o3); clear hS; go_simp; first | done | exact rfl)); (case putrc1 => (simp only [Act.put, List.setIfInBounds_toArray, List.set_cons_zero, List.set_cons_succ]; first | done | exact rfl)); (case' nextrc1 => skip))
                (refine' GG.grow_lit (GG.CS.still _) rfl ?wtrc2 ?runrc2 ?putrc2 ?nextrc2; (case wtrc2 => rfl); (case runrc2 => (intro w' hS; (obtain ⟨dn, s, hS⟩ := hS); (obtain ⟨d0, d1, d2, -⟩ := hS.blk.o3); clear hS; go_simp; first | done | exact rfl)); (case putrc2 => (simp only [Act.put, List.setIfInBounds_toArray, List.set_cons_zero, List.set_cons_succ]; first | done | exact rfl)); (case' nextrc2 => skip))
                (refine' GG.grow_lit (GG.CS.still _) rfl ?wtrc3 ?runrc3 ?putrc3 ?nextrc3; (case wtrc3 => rfl); (case runrc3 => (intro w' hS; (obtain ⟨dn, s, hS⟩ := hS); (obtain ⟨d0, d1, d2, -⟩ := hS.blk.o3); clear hS; go_simp; first | done | exact rfl)); (case putrc3 => (simp only [Act.put, List.setIfInBounds_toArray, List.set_cons_zero, List.set_cons_succ]; first | done | exact rfl)); (case' nextrc3 => skip))
                (refine' GG.grow_any_call (p := GG.UF 0 (enc X)) (hp := GG.UF.st) rfl Tryz.func45 (by kernel_rfl) rfl rfl ?wtrc4 ?runrc4 ?putrc4 ?nextrc4; (case wtrc4 => rfl); (case runrc4 => (intro dn s w' hS hd H; exact (ruint_any X _ (by have := HQ.out; omega) (by have := HQ.out; omega)).mono (fun ev w2 h => hS.u h (enc_ne _) 4 0))); (case putrc4 => (intro v; (simp only [Act.put, List.setIfInBounds_toArray, List.set_cons_zero, List.set_cons_succ]; first | done | exact rfl))); (case' nextrc4 => intro v4))
                (refine' GG.grow_any_op (p := GG.CF 1) (hp := GG.CF.st) rfl ?wtrc5 ?runrc5 ?putrc5 ?nextrc5; (case wtrc5 => rfl); (case runrc5 => (intro dn s w' hS hd H; (obtain ⟨v', s', w2, hr, q⟩ := hS.app (j := 0) hN1 (by decide) rfl hd hS.first (show GG.UF 0 (enc X) v4 s w' from H 4 (by decide)) (enc_ne _) rfl (by have := HQ.out; have := enc_len (X); simp only [List.getD_cons_zero]; omega)); exact ⟨v', s', w2, GG.exec_append (.tmp 128) (.tmp 132) 22 rfl rfl rfl hr, q⟩)); (case putrc5 => (intro v; (simp only [Act.put, List.setIfInBounds_toArray, List.set_cons_zero, List.set_cons_succ]; first | done | exact rfl))); (case' nextrc5 => intro v5))
                (refine' GG.grow_lit (GG.CS.still _) rfl ?wtrc6 ?runrc6 ?putrc6 ?nextrc6; (case wtrc6 => rfl); (case runrc6 => (intro w' hS; (obtain ⟨dn, s, hS⟩ := hS); (obtain ⟨d0, d1, d2, -⟩ := hS.blk.o3); clear hS; go_simp; first | done | exact rfl)); (case putrc6 => (simp only [Act.put, List.setIfInBounds_toArray, List.set_cons_zero, List.set_cons_succ]; first | done | exact rfl)); (case' nextrc6 => skip))
                (refine' GG.grow_lit (GG.CS.still _) rfl ?wtrc7 ?runrc7 ?putrc7 ?nextrc7; (case wtrc7 => rfl); (case runrc7 => (intro w' hS; (obtain ⟨dn, s, hS⟩ := hS); (obtain ⟨d0, d1, d2, -⟩ := hS.blk.o3); clear hS; go_simp; first | done | exact rfl)); (case putrc7 => (simp only [Act.put, List.setIfInBounds_toArray, List.set_cons_zero, List.set_cons_succ]; first | done | exact rfl)); (case' nextrc7 => skip))
                (refine' GG.grow_lit (GG.CS.still _) rfl ?wtrc8 ?runrc8 ?putrc8 ?nextrc8; (case wtrc8 => rfl); (case runrc8 => (intro w' hS; (obtain ⟨dn, s, hS⟩ := hS); (obtain ⟨d0, d1, d2, -⟩ := hS.blk.o3); clear hS; go_simp; first | done | exact rfl)); (case putrc8 => (simp only [Act.put, List.setIfInBounds_toArray, List.set_cons_zero, List.set_cons_succ]; first | done | exact rfl)); (case' nextrc8 => skip))
                (refine' GG.grow_any_call (p := GG.UF 1 (enc Y)) (hp := GG.UF.st) rfl Tryz.func45 (by kernel_rfl) rfl rfl ?wtrc9 ?runrc9 ?putrc9 ?nextrc9; (case wtrc9 => rfl); (case runrc9 => (intro dn s w' hS hd H; exact (ruint_any Y _ (by have := HQ.out; omega) (by have := HQ.out; omega)).mono (fun ev w2 h => hS.u h (enc_ne _) 9 1))); (case putrc9 => (intro v; (simp only [Act.put, List.setIfInBounds_toArray, List.set_cons_zero, List.set_cons_succ]; first | done | exact rfl))); (case' nextrc9 => intro v9))
                (refine' GG.grow_any_op (p := GG.CF 2) (hp := GG.CF.st) rfl ?wtrc10 ?runrc10 ?putrc10 ?nextrc10; (case wtrc10 => rfl); (case runrc10 => (intro dn s w' hS hd H; (obtain ⟨v', s', w2, hr, q⟩ := hS.app (j := 1) hN1 (by decide) rfl hd (show GG.CF 1 v5 s w' from H 5 (by decide)) (show GG.UF 1 (enc Y) v9 s w' from H 9 (by decide)) (enc_ne _) rfl (by have := HQ.out; have := enc_len (X); have := enc_len (Y); simp only [List.getD_cons_zero, List.getD_cons_succ, List.length_append]; omega)); exact ⟨v', s', w2, GG.exec_append (.tmp 133) (.tmp 137) 22 rfl rfl rfl hr, q⟩)); (case putrc10 => (intro v; (simp only [Act.put, List.setIfInBounds_toArray, List.set_cons_zero, List.set_cons_succ]; first | done | exact rfl))); (case' nextrc10 => intro v10))
                (refine' GG.grow_lit (GG.CS.still _) rfl ?wtrc11 ?runrc11 ?putrc11 ?nextrc11; (case wtrc11 => rfl); (case runrc11 => (intro w' hS; (obtain ⟨dn, s, hS⟩ := hS); (obtain ⟨d0, d1, d2, -⟩ := hS.blk.o3); clear hS; go_simp; first | done | exact rfl)); (case putrc11 => (simp only [Act.put, List.setIfInBounds_toArray, List.set_cons_zero, List.set_cons_succ]; first | done | exact rfl)); (case' nextrc11 => skip))
                (refine' GG.grow_lit (GG.CS.still _) rfl ?wtrc12 ?runrc12 ?putrc12 ?nextrc12; (case wtrc12 => rfl); (case runrc12 => (intro w' hS; (obtain ⟨dn, s, hS⟩ := hS); (obtain ⟨d0, d1, d2, -⟩ := hS.blk.o3); clear hS; go_simp; first | done | exact rfl)); (case putrc12 => (simp only [Act.put, List.setIfInBounds_toArray, List.set_cons_zero, List.set_cons_succ]; first | done | exact rfl)); (case' nextrc12 => skip))
                (refine' GG.grow_any_call (p := GG.UF 2 (enc (pz Z))) (hp := GG.UF.st) rfl Tryz.func46 (by kernel_rfl) rfl rfl ?wtrc13 ?runrc13 ?putrc13 ?nextrc13; (case wtrc13 => rfl); (case runrc13 => (intro dn s w' hS hd H; exact (rprice_any (c := Z) HZ.out _).mono (fun ev w2 h => hS.u h (enc_ne _) 13 2))); (case putrc13 => (intro v; (simp only [Act.put, List.setIfInBounds_toArray, List.set_cons_zero, List.set_cons_succ]; first | done | exact rfl))); (case' nextrc13 => intro v13))
                (refine' GG.grow_any_op (p := GG.CF 3) (hp := GG.CF.st) rfl ?wtrc14 ?runrc14 ?putrc14 ?nextrc14; (case wtrc14 => rfl); (case runrc14 => (intro dn s w' hS hd H; (obtain ⟨v', s', w2, hr, q⟩ := hS.app (j := 2) hN1 (by decide) rfl hd (show GG.CF 2 v10 s w' from H 10 (by decide)) (show GG.UF 2 (enc (pz Z)) v13 s w' from H 13 (by decide)) (enc_ne _) rfl (by have := HQ.out; have := enc_len (X); have := enc_len (Y); have := enc_len (pz Z); simp only [List.getD_cons_zero, List.getD_cons_succ, List.length_append]; omega)); exact ⟨v', s', w2, GG.exec_append (.tmp 138) (.tmp 141) 22 rfl rfl rfl hr, q⟩)); (case putrc14 => (intro v; (simp only [Act.put, List.setIfInBounds_toArray, List.set_cons_zero, List.set_cons_succ]; first | done | exact rfl))); (case' nextrc14 => intro v14))
                intro dn s w9 hS hdn hk9
                have h14 : GG.CF 3 v14 s w9 := hk9 14 (by decide)
                obtain ⟨ho, he⟩ := hS.last rfl h14
                have HN : Hid (OwnB N w9 v14 (L5 ++ encs ((n.a.take (k + 1)).flatMap numsA)) ∧ Below N w4b w9) := Lib.hid ⟨by rw [← HEND.out]; exact ho, HL1.out.trans (he.low HO1.out.ge hN1)⟩
                clear hS hdn hk9 h14 ho he HO1 HG1 HL1 HEND HQ hwX hwY hN1 HZ
                refine wpAny_ready (rs := [15]) (by kernel_rfl) (by simp) (AllReady.cons rfl (fun K hK => ?_) AllReady.nil)
                go_simp
                refine hK _ _ ?_
                clear hK K
                refine wpAny_done (by kernel_rfl) ?_ _
                go_wp2_with fail
                go_roundw
                case rel => exact ⟨k + 1, by omega, by go_num, HN⟩
                case measure => simp [intOf]; omega
              · obtain rfl : k = n.a.length := by omega
                have hf := HR.out
                rw [List.take_length, H6.out] at hf
                have HO := Lib.hid hf.1
                have HLW := Lib.hid hf.2
                have HBW := Lib.hid hbw
                have hNw : N ≤ wr.heap.size := by have := hf.2.size; omega
                clear hf HR hbw
                go_wp2_with fail
                refine (rsum8_any u5 L6 wr (HO.out.u8s (by have := HP6.out; omega)) (by rw [HBD.out]; exact bodyN_in8 HC0.out)).mono ?_
                rintro ev w10 ⟨sv, z, rfl, hsv', -, hb⟩
                have hsl : (sumB L6).length = 4 := sumB_len L6
                have hLl := HP6.out
                obtain ⟨v11, w11, hrun, ho, he⟩ := BufV.app (Or.inl (own_below8 HO.out hb)) (by have := hb.size; omega) ⟨z, hsv'⟩ (by intro h; rw [h] at hsl; simp at hsl) (by omega)
                have hfile : L6 ++ sumB L6 = fileN n := by rw [HBD.out]; rfl
                rw [hfile] at ho
                obtain ⟨q, cq, rfl⟩ := ho.shape
                have HRUN := Lib.hid hrun
                have hfl : (fileN n).length ≤ 5000000 := by rw [← hfile, List.length_append]; omega
                have hlow : Below N wr w11 := ((Ext.below u5 hb).trans he).low HO.out.ge hNw
                have HB11 := Lib.hid (HBW.out.trans (hlow.mono hwN))
                have HU11 := Lib.hid (show OwnB N w11 _ _ from ho)
                have KR11 := Lib.hid ((KR5.out.carry HLW.out hBN1).carry hlow hBN1)
                clear hsv' hb hrun ho he hsl hLl hfile HO hNw hlow HLW HBW b0 b1 b2
                obtain ⟨r0, r1, f0, f1⟩ := KR11.out.o2
                go_upto_region 32 with (at_builtin; refine wpList_append_run rfl _ _ 22 rfl _ _ _ rfl rfl HRUN.out ?_)
                by_cases hbig : 65536 < (fileN n).length
                · have d1 : decide ((65536 : Int) < ((fileN n).length : Int)) = true := decide_eq_true (by omega)
                  go_wp2_with fail
                  refine (vAt6' fileB 0 4 _).mono ?_
                  rintro ev w12 ⟨wv, rfl, ⟨h1, q2, n2, c2, rfl⟩, hb⟩
                  have KR12 := Lib.hid (KR11.out.keep hb)
                  have HP : Hid (E6Post (encodeF n) w (.returned (.tuple #[.slice none 0 0, .agg #[.slice q2 n2 c2, .int .i64 4]])) ((w12.setCell ⟨B + 1, 0, none⟩ (.slice q2 n2 c2)).setCell ⟨B + 1, 1, none⟩ (.int .i64 4))) := by
                    unfold encodeF
                    rw [if_neg (by rw [HC0.out]; simp), if_pos hbig]
                    have hw : WrongV ((w12.setCell ⟨B + 1, 0, none⟩ (.slice q2 n2 c2)).setCell ⟨B + 1, 1, none⟩ (.int .i64 4)) (.agg #[.slice q2 n2 c2, .int .i64 4]) [(fileB, 0)] 4 := by
                      refine h1.only (ks := [B + 1]) ?_ ?_
                      · iterate 2 (refine Only.setCell ?_ _ _ (by simp))
                        exact Only.refl _ _
                      · exact NoStr.cons KR12.out (by intro v hv s; simp at hv; rcases hv with rfl | rfl <;> simp) (NoStr.nil _)
                    refine Lib.hid ⟨_, _, rfl, U8s.nil _, hw, ?_⟩
                    iterate 2 (refine Below.setCell ?_ (by simp only []; omega) _)
                    exact bOn HB11.out hb
                  clear h1 hb r0 r1 f0 f1
                  obtain ⟨r0, r1, f0, f1⟩ := KR12.out.o2
                  go_wp2_with fail
                  exact bodyPost_ret (v := .tuple #[.slice none 0 0, .agg #[.slice q2 n2 c2, .int .i64 4]]) (by simp [results, Tryz.results17, go_sem]; try go_simp) rfl HP.out
                · have d1 : decide ((65536 : Int) < ((fileN n).length : Int)) = false := decide_eq_false (by omega)
                  have HP : Hid (E6Post (encodeF n) w (.returned (.tuple #[.slice q (fileN n).length cq, .agg #[.slice none 0 0, .int .i64 0]])) ((w11.setCell ⟨B + 1, 0, none⟩ (.slice none 0 0)).setCell ⟨B + 1, 1, none⟩ (.int .i64 0))) := by
                    unfold encodeF
                    rw [if_neg (by rw [HC0.out]; simp), if_neg hbig]
                    have k1 := KR11.out.set 0 (.slice none 0 0)
                    have ho : OwnB N ((w11.setCell ⟨B + 1, 0, none⟩ (.slice none 0 0)).setCell ⟨B + 1, 1, none⟩ (.int .i64 0)) (.slice q (fileN n).length cq) (fileN n) := owns_set (owns_set HU11.out KR11.out (by decide) _ _) k1 (by decide) _ _
                    refine Lib.hid ⟨_, _, rfl, ho.u8s (by omega), ⟨_, rfl, Or.inl ⟨rfl, rfl⟩⟩, ?_⟩
                    iterate 2 (refine Below.setCell ?_ (by simp only []; omega) _)
                    exact HB11.out
                  go_wp2_with fail
                  exact bodyPost_ret (v := .tuple #[.slice q (fileN n).length cq, .agg #[.slice none 0 0, .int .i64 0]]) (by simp [results, Tryz.results17, go_sem]; try go_simp) rfl HP.out

end Go.Proofs.YtjapdbegfanfiaaGreatDoor
