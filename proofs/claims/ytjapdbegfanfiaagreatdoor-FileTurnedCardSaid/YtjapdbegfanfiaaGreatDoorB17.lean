/-
  The program's file.Parse, whole.
-/
import Derived.Test.YtjapdbegfanfiaaGreatDoorPFF
import Derived.Test.YtjapdbegfanfiaaGreatDoorW6X
import Derived.Test.YtjapdbegfanfiaaGreatDoorB16
namespace Go.Proofs.YtjapdbegfanfiaaGreatDoor
open Go.RowKit

set_option maxRecDepth 100000 in
set_option maxHeartbeats 4000000 in
theorem vDoneE {w : World} {lo b a : Nat} {l : List Int} {e : Int} (h : RdV w lo b l a e) : Calls Tryz.prog 26 #[rp b] w (EPost (doneR l a e).1 (doneR l a e).2 w) := by
  unfold doneR
  by_cases he : e = 0
  · subst he
    by_cases ha : a < l.length
    · rw [if_neg (by simp), if_pos ha]
      refine (vDoneL h ha).mono ?_
      rintro ev w' ⟨v, rfl, hf, hb⟩
      exact ⟨v, rfl, Or.inr ⟨by simp, hf.1⟩, hb⟩
    · rw [if_neg (by simp), if_neg ha]
      refine (vDone0 h ha).mono ?_
      rintro ev w' ⟨rfl, hb⟩
      exact ⟨_, rfl, Or.inl ⟨rfl, rfl⟩, hb⟩
  · rw [if_pos he]
    refine (vDone h he).mono ?_
    rintro ev w' ⟨v, rfl, hf, hb⟩
    exact ⟨v, rfl, Or.inr ⟨by simp, hf.1⟩, hb⟩
theorem frame_is (B : List Int) : frameF B = fltOK ∨ ∃ e, frameF B = ([(fileB, 0)], e) ∧ ¬ e = 0 := by
  unfold frameF
  split
  · exact Or.inr ⟨_, rfl, by decide⟩
  · split
    · exact Or.inr ⟨_, rfl, by decide⟩
    · split
      · exact Or.inr ⟨_, rfl, by decide⟩
      · split
        · exact Or.inr ⟨_, rfl, by decide⟩
        · exact Or.inl rfl
theorem frame_bad {B : List Int} {e : Int} (h : frameF B = ([(fileB, 0)], e)) (he : ¬ e = 0) : parseF B = (emptyN, ([(fileB, 0)], e)) := by
  unfold frameF at h
  unfold parseF
  split at h
  · rw [if_pos (by assumption), ← h]
  · rw [if_neg (by assumption)]
    split at h
    · rw [if_pos (by assumption), ← h]
    · rw [if_neg (by assumption)]
      split at h
      · rw [if_pos (by assumption), ← h]
      · rw [if_neg (by assumption)]
        split at h
        · rw [if_pos (by assumption), ← h]
        · exact absurd (congrArg Prod.snd h).symm he
theorem frame_good {B : List Int} (h : frameF B = fltOK) : ¬ 65536 < B.length ∧ ¬ B.length < 8 ∧ sumB (B.take (B.length - 4)) = B.drop (B.length - 4) ∧ B.take 4 = markL := by
  unfold frameF at h
  split at h
  · exact absurd (congrArg Prod.snd h) (by decide)
  · split at h
    · exact absurd (congrArg Prod.snd h) (by decide)
    · split at h
      · exact absurd (congrArg Prod.snd h) (by decide)
      · split at h
        · exact absurd (congrArg Prod.snd h) (by decide)
        · rename_i h1 h2 h3 h4
          exact ⟨h1, h2, by simpa using h3, by simpa using h4⟩
/-- What Parse answers. -/
def P5Post (R : NetD × Flt) (w : World) (ev : Ending) (w' : World) : Prop := ∃ nv er, ev = .returned (.tuple #[nv, er]) ∧ NetV w' nv R.1 ∧ FaultV w' er R.2.1 R.2.2 ∧ Below w.heap.size w w'
theorem flt_shape {w : World} {v : Value} {ps : List (ByteArray × Int)} {e : Int} (h : FaultV w v ps e) (hp : ¬ ps = []) : ∃ b, v = .iface 84 (.pointer (some ⟨b, 0, none⟩)) := by
  cases ps with
  | nil => exact absurd rfl hp
  | cons p r =>
    obtain ⟨b, h, -⟩ := h.iface
    exact ⟨b, h⟩
theorem done_is (l : List Int) (a : Nat) (e : Int) : (doneR l a e = fltOK ∧ (doneR l a e).2 = 0) ∨ (¬ (doneR l a e).1 = [] ∧ ¬ (doneR l a e).2 = 0) := by
  unfold doneR
  by_cases he : e = 0
  · rw [if_neg (by simpa using he)]
    by_cases ha : a < l.length
    · rw [if_pos ha]; exact Or.inr ⟨by simp, by simp⟩
    · rw [if_neg ha]; exact Or.inl ⟨rfl, rfl⟩
  · rw [if_pos he]; exact Or.inr ⟨by simp, he⟩
set_option maxRecDepth 100000 in
set_option maxHeartbeats 4000000 in
theorem vParse (p0 : Option Addr) (c0 : Nat) (B : List Int) (w : World) (h : U8s w (.slice p0 B.length c0) B) (hin : In8 B) : Calls Tryz.prog 9 #[.slice p0 B.length c0] w (P5Post (parseF B) w) := by
  have h0 := h.below (below_new8 (.cells #[.slice none 0 0, .slice none 0 0, .slice none 0 0] 28))
  have KN0 : Hid (Blk (w.alloc (.cells #[.slice none 0 0, .slice none 0 0, .slice none 0 0] 28)) w.heap.size #[.slice none 0 0, .slice none 0 0, .slice none 0 0] 28) := Lib.hid (Blk.new _ _ _ _ rfl)
  have BB0 : Hid (Below w.heap.size w (w.alloc (.cells #[.slice none 0 0, .slice none 0 0, .slice none 0 0] 28))) := Lib.hid (below_new8 _)
  have hcap : B.length ≤ c0 := (OldB.of h).cap.2
  have HOB := Lib.hid (OldB.of h)
  have H0 := Lib.hid h0
  have HIN := Lib.hid hin
  clear h h0 hin
  rcases frame_is B with hfr | ⟨e, hfr, he⟩
  case inr =>
    rw [frame_bad hfr he]
    have HFR := Lib.hid hfr
    clear hfr he
    go_enter Tryz.func9, Tryz.ntmps9
    go_wp2_with fail
    refine (vFrame p0 c0 B _ H0.out HIN.out).mono ?_
    rintro ev w1 ⟨v, rfl, hf, hb⟩
    rw [HFR.out] at hf
    obtain ⟨fb, rfl⟩ := flt_shape hf (by simp)
    have KN1 := Lib.hid (KN0.out.keep hb)
    have BB1 := Lib.hid (bOn BB0.out hb)
    have HFV := Lib.hid hf
    clear hf hb H0 KN0 BB0 HFR
    obtain ⟨n0, n1, n2, f0, f1, f2⟩ := KN1.out.o3
    have HF : Hid (P5Post (emptyN, ([(fileB, 0)], e)) w (.returned (.tuple #[.agg #[.slice none 0 0, .slice none 0 0, .slice none 0 0], .iface 84 (.pointer (some ⟨fb, 0, none⟩))])) (((w1.setCell ⟨w.heap.size, 0, none⟩ (.slice none 0 0)).setCell ⟨w.heap.size, 1, none⟩ (.slice none 0 0)).setCell ⟨w.heap.size, 2, none⟩ (.slice none 0 0))) := by
      have k1 := KN1.out.set 0 (.slice none 0 0)
      have k2 := k1.set 1 (.slice none 0 0)
      refine Lib.hid ⟨_, _, rfl, netV_empty _, FaultV.setCell (k2.cell 0 rfl) (by simp) (FaultV.setCell (k1.cell 0 rfl) (by simp) (FaultV.setCell (KN1.out.cell 0 rfl) (by simp) HFV.out)), ?_⟩
      iterate 3 (refine Below.setCell ?_ (by simp only []; omega) _)
      exact BB1.out
    clear KN1 BB1 HFV
    go_wp2_with fail
    exact bodyPost_ret (v := .tuple #[.agg #[.slice none 0 0, .slice none 0 0, .slice none 0 0], .iface 84 (.pointer (some ⟨fb, 0, none⟩))]) (by simp [results, Tryz.results9, go_sem]; go_simp) rfl HF.out
  case inl =>
    obtain ⟨hl, hs, hsum, hmark⟩ := frame_good hfr
    rw [parse_tail hl hs hsum hmark]
    have HFR := Lib.hid hfr
    clear hfr hsum hmark
    obtain ⟨M, hM⟩ : ∃ M : Nat, B.length = M + 8 := ⟨B.length - 8, by omega⟩
    have hMi : (B.length : Int) - 4 = ((M + 4 : Nat) : Int) := by omega
    have hwM : IntKind.i64.wrap ((B.length : Int) - 4) = ((M + 4 : Nat) : Int) := by rw [hMi]; exact wrap_small (by omega) (by omega)
    obtain ⟨L, hL⟩ : ∃ L, (B.take (B.length - 4)).drop 4 = L := ⟨_, rfl⟩
    rw [hL]
    have hL8 : In8 L := by rw [← hL]; exact (HIN.out.take _).drop _
    have hLl : L.length = M := by rw [← hL, List.length_drop, List.length_take]; omega
    have hLd : (B.drop 4).take M = L := by rw [← hL, List.drop_take]; congr 1; omega
    have HLd := Lib.hid hLd
    have HL8 := Lib.hid hL8
    have HLl := Lib.hid hLl
    have hLs : Hid (L.length ≤ 100000) := Lib.hid (by omega)
    obtain ⟨N, hN⟩ : ∃ N, M + 4 = N := ⟨_, rfl⟩
    rw [hN] at hwM hMi
    have hNc : N ≤ c0 := by omega
    have hN4 : 4 ≤ N := by omega
    have hc4 : 4 ≤ c0 := by omega
    have hNB : N ≤ B.length := by omega
    have HNM : Hid (N - 4 = M) := Lib.hid (by omega)
    have HMB : Hid (4 + M ≤ B.length) := Lib.hid (by omega)
    clear hL hL8 hLd hLl hM hN hMi
    go_enter Tryz.func9, Tryz.ntmps9
    go_wp2_with fail
    refine (vFrame p0 c0 B _ H0.out HIN.out).mono ?_
    rintro ev w1 ⟨v, rfl, hf, hb⟩
    rw [HFR.out] at hf
    obtain rfl := FaultV.none hf
    have KN1 := Lib.hid (KN0.out.keep hb)
    have BB1 := Lib.hid (bOn BB0.out hb)
    have HU1 := Lib.hid ((HOB.out.keep BB1.out).part 4 M HMB.out)
    rw [HLd.out] at HU1
    clear hf hb H0 KN0 BB0 HFR
    go_wp2_with fail
    have hc8 : ¬ c0 = 4 := by omega
    have hmv : Value.slice (Option.map (fun x : Addr => ({ block := x.block, off := x.off + 4 } : Addr)) p0) (N - 4) (c0 - 4) = .slice (moved p0 c0 4) L.length (c0 - 4) := by
      unfold moved
      rw [HNM.out, HLl.out, if_neg hc8]
      rfl
    rw [hmv]
    rw [← HLl.out] at HU1
    refine (new_any _ L w1 HU1.out HL8.out hLs.out).mono ?_
    rintro ev w2 ⟨b, rfl, hr, hb⟩
    have hbz := hr.lt.1
    have hkz := KN1.out.lt
    have KN2 := Lib.hid (KN1.out.keep hb)
    have BB2 := Lib.hid (bOn BB1.out hb)
    have HR2 := Lib.hid hr
    clear hr hb KN1 BB1 HU1 hmv
    have hbk : w.heap.size < b := by omega
    clear hbz hkz
    go_wp2_with fail
    refine (vNet HR2.out).mono ?_
    rintro ev w3 ⟨nv, rfl, hn, hr, hb⟩
    obtain ⟨vq, vc, aq, ac, tq, tc, rfl, hv, ha, ht⟩ := hn
    have hn : NetO w2.heap.size w3 (.agg #[.slice vq (rdN L).v.length vc, .slice aq (rdN L).a.length ac, .slice tq (rdN L).t.length tc]) (rdN L) := ⟨vq, vc, aq, ac, tq, tc, rfl, hv, ha, ht⟩
    obtain ⟨W3, hW3⟩ := named (w3.alloc (.cells #[.slice vq (rdN L).v.length vc, .slice aq (rdN L).a.length ac, .slice tq (rdN L).t.length tc] 28))
    obtain ⟨TT, hTT⟩ : ∃ T, w3.heap.size = T := ⟨_, rfl⟩
    have KN3 : Hid (Blk W3 w.heap.size #[.slice none 0 0, .slice none 0 0, .slice none 0 0] 28) := by rw [hW3]; exact Lib.hid ((hb.blk KN2.out (by omega)).old _)
    have KT3 : Hid (Blk W3 TT #[.slice vq (rdN L).v.length vc, .slice aq (rdN L).a.length ac, .slice tq (rdN L).t.length tc] 28) := by rw [hW3]; exact Lib.hid (Blk.new _ _ _ _ hTT)
    have BB3 : Hid (Below w.heap.size w W3) := by rw [hW3]; exact Lib.hid (bOn (bOnB BB2.out hb (by omega)) (below_new8 _))
    have HR3 : Hid (RdV W3 w1.heap.size b L (rdAs L).2.1 (rdAs L).2.2) := by rw [hW3]; exact Lib.hid (hr.below (below_new8 _))
    have HN3 : Hid (NetO w2.heap.size W3 (.agg #[.slice vq (rdN L).v.length vc, .slice aq (rdN L).a.length ac, .slice tq (rdN L).t.length tc]) (rdN L)) := by rw [hW3]; exact Lib.hid (hn.below (below_new8 _))
    have hTw : TT ≠ w.heap.size := by have := hb.size; have := BB2.out.size; have := HR2.out.lt.2.1; omega
    clear hv ha ht hn hr hb KN2 BB2 HR2
    go_upto_region 6 with fail
    rw [← hW3]
    clear hW3 hTT
    go_wp2_with fail
    refine (vDoneE HR3.out).mono ?_
    rintro ev w4 ⟨v, rfl, hf, hb⟩
    obtain ⟨D, hD⟩ : ∃ D, doneR L (rdAs L).2.1 (rdAs L).2.2 = D := ⟨_, rfl⟩
    have hdi := done_is L (rdAs L).2.1 (rdAs L).2.2
    rw [hD] at hdi hf
    have eR : tailF L = (if D.2 ≠ 0 then (emptyN, D) else if (chkN (rdN L)).2 ≠ 0 then (emptyN, chkN (rdN L)) else (rdN L, fltOK)) := by unfold tailF; rw [hD]
    have KN4 := Lib.hid (KN3.out.keep hb)
    have KT4 := Lib.hid (KT3.out.keep hb)
    have BB4 := Lib.hid (bOn BB3.out hb)
    have HN4 := Lib.hid (HN3.out.below hb)
    clear hb KN3 KT3 BB3 HR3 HN3 hD
    rcases hdi with ⟨rfl, -⟩ | ⟨hd1, hd2⟩
    case inr =>
      rw [if_pos hd2] at eR
      obtain ⟨fb, rfl⟩ := flt_shape hf hd1
      have HFV := Lib.hid hf
      have ER := Lib.hid eR
      clear hf eR hd1 hd2
      obtain ⟨n0, n1, n2, f0, f1, f2⟩ := KN4.out.o3
      have HF : Hid (P5Post (tailF L) w (.returned (.tuple #[.agg #[.slice none 0 0, .slice none 0 0, .slice none 0 0], .iface 84 (.pointer (some ⟨fb, 0, none⟩))])) (((w4.setCell ⟨w.heap.size, 0, none⟩ (.slice none 0 0)).setCell ⟨w.heap.size, 1, none⟩ (.slice none 0 0)).setCell ⟨w.heap.size, 2, none⟩ (.slice none 0 0))) := by
        rw [ER.out]
        have k1 := KN4.out.set 0 (.slice none 0 0)
        have k2 := k1.set 1 (.slice none 0 0)
        refine Lib.hid ⟨_, _, rfl, netV_empty _, FaultV.setCell (k2.cell 0 rfl) (by simp) (FaultV.setCell (k1.cell 0 rfl) (by simp) (FaultV.setCell (KN4.out.cell 0 rfl) (by simp) HFV.out)), ?_⟩
        iterate 3 (refine Below.setCell ?_ (by simp only []; omega) _)
        exact BB4.out
      clear KN4 BB4 HFV
      go_wp2_with fail
      exact bodyPost_ret (v := .tuple #[.agg #[.slice none 0 0, .slice none 0 0, .slice none 0 0], .iface 84 (.pointer (some ⟨fb, 0, none⟩))]) (by simp [results, Tryz.results9, go_sem]; go_simp) rfl HF.out
    case inl =>
      rw [if_neg (by simp [fltOK])] at eR
      obtain rfl := FaultV.none hf
      obtain ⟨m0, m1, m2, -, -, -⟩ := KT4.out.o3
      have hsm := rdN_small HL8.out
      have hcs := rdN_costs HL8.out
      have HS := Lib.hid hsm
      have HC := Lib.hid hcs
      have HNV := Lib.hid (HN4.out.net hsm hcs)
      have HIT := Lib.hid (rdN_in HL8.out)
      have ER := Lib.hid eR
      have HNS : Hid (NetSmall (rdN L)) := Lib.hid ⟨by omega, by omega, by omega⟩
      clear hf eR hsm hcs
      go_wp2_with fail
      obtain ⟨F, hF⟩ : ∃ F, chkN (rdN L) = F := ⟨_, rfl⟩
      refine (vcheckE HNV.out HNS.out HIT.out hF).mono ?_
      rintro ev w5 ⟨v, rfl, hf, hb⟩
      have hor := @flt_or (rdN L)
      rw [hF] at hor
      have ER5 := Lib.hid ER.out
      rw [hF] at ER5
      have KN5 := Lib.hid (KN4.out.keep hb)
      have KT5 := Lib.hid (KT4.out.keep hb)
      have BB5 := Lib.hid (bOn BB4.out hb)
      have HN5 := Lib.hid (HN4.out.below hb)
      clear hb KN4 KT4 BB4 HN4 HNV m0 m1 m2 hF ER HIT HNS
      obtain ⟨n0, n1, n2, f0, f1, f2⟩ := KN5.out.o3
      rcases hor with ⟨h1, h2⟩ | ⟨h1, -, h2⟩
      · obtain ⟨Fp, Fe⟩ := F
        simp only at h1 h2
        subst h1 h2
        obtain rfl := FaultV.none hf
        obtain ⟨m0, m1, m2, -, -, -⟩ := KT5.out.o3
        have HF : Hid (P5Post (tailF L) w (.returned (.tuple #[.agg #[.slice vq (rdN L).v.length vc, .slice aq (rdN L).a.length ac, .slice tq (rdN L).t.length tc], .nilIface])) (((w5.setCell ⟨w.heap.size, 0, none⟩ (.slice vq (rdN L).v.length vc)).setCell ⟨w.heap.size, 1, none⟩ (.slice aq (rdN L).a.length ac)).setCell ⟨w.heap.size, 2, none⟩ (.slice tq (rdN L).t.length tc))) := by
          rw [ER5.out, if_neg (by simp)]
          have k1 := KN5.out.set 0 (.slice vq (rdN L).v.length vc)
          have k2 := k1.set 1 (.slice aq (rdN L).a.length ac)
          refine Lib.hid ⟨_, _, rfl, (((HN5.out.set KN5.out _ _).set k1 _ _).set k2 _ _).net HS.out HC.out, Or.inl ⟨rfl, rfl⟩, ?_⟩
          iterate 3 (refine Below.setCell ?_ (by simp only []; omega) _)
          exact BB5.out
        clear hf KN5 KT5 BB5 HN5
        go_wp2_with fail
        exact bodyPost_ret (v := .tuple #[.agg #[.slice vq (rdN L).v.length vc, .slice aq (rdN L).a.length ac, .slice tq (rdN L).t.length tc], .nilIface]) (by simp [results, Tryz.results9, go_sem]; go_simp) rfl HF.out
      · have hp : ¬ F.1 = [] := by intro h; rw [h] at h1; simp at h1
        obtain ⟨fb, rfl⟩ := flt_shape hf hp
        have HFV := Lib.hid hf
        clear hf h1 hp
        have HF : Hid (P5Post (tailF L) w (.returned (.tuple #[.agg #[.slice none 0 0, .slice none 0 0, .slice none 0 0], .iface 84 (.pointer (some ⟨fb, 0, none⟩))])) (((w5.setCell ⟨w.heap.size, 0, none⟩ (.slice none 0 0)).setCell ⟨w.heap.size, 1, none⟩ (.slice none 0 0)).setCell ⟨w.heap.size, 2, none⟩ (.slice none 0 0))) := by
          rw [ER5.out, if_pos h2]
          have k1 := KN5.out.set 0 (.slice none 0 0)
          have k2 := k1.set 1 (.slice none 0 0)
          refine Lib.hid ⟨_, _, rfl, netV_empty _, FaultV.setCell (k2.cell 0 rfl) (by simp) (FaultV.setCell (k1.cell 0 rfl) (by simp) (FaultV.setCell (KN5.out.cell 0 rfl) (by simp) HFV.out)), ?_⟩
          iterate 3 (refine Below.setCell ?_ (by simp only []; omega) _)
          exact BB5.out
        clear KN5 BB5 HFV h2
        go_wp2_with fail
        exact bodyPost_ret (v := .tuple #[.agg #[.slice none 0 0, .slice none 0 0, .slice none 0 0], .iface 84 (.pointer (some ⟨fb, 0, none⟩))]) (by simp [results, Tryz.results9, go_sem]; go_simp) rfl HF.out

end Go.Proofs.YtjapdbegfanfiaaGreatDoor

/-
  The program's file.Encode, whole.
-/
namespace Go.Proofs.YtjapdbegfanfiaaGreatDoor
open Go.RowKit

/-- What Encode answers. -/
def E5Post (R : List Int × Flt) (w : World) (ev : Ending) (w' : World) : Prop := ∃ v er, ev = .returned (.tuple #[v, er]) ∧ U8s w' v R.1 ∧ FaultV w' er R.2.1 R.2.2 ∧ Below w.heap.size w w'
theorem body_is (n : NetD) : markL ++ encs [(n.t.length : Int), (n.v.length : Int), (n.a.length : Int)] ++ encs (n.t.flatMap numsT) ++ encs (numsV 0 0 n.v) ++ encs (n.a.flatMap numsA) = bodyN n := by
  unfold bodyN numsN
  simp [encs, encs_append, List.append_assoc]
theorem bodyN_in8 {n : NetD} (h : (chkN n).2 = 0) : In8 (bodyN n) := fun x hx => fileN_in8 h x (by unfold fileN; exact List.mem_append_left _ hx)
set_option maxRecDepth 100000 in
set_option maxHeartbeats 4000000 in
theorem vEncode {w : World} {v : Value} {n : NetD} (h : NetV w v n) (hin : InNet n) (hsm : NetSmall n) : Calls Tryz.prog 14 #[v] w (E5Post (encodeF n) w) := by
  obtain ⟨vq, aq, tq, vc, ac, tc, rfl, hS⟩ := h.shape
  have HNS := Lib.hid hS
  obtain ⟨B, hB⟩ : ∃ B, w.heap.size = B := ⟨_, rfl⟩
  obtain ⟨W0, hW0⟩ := named (w.alloc (.cells #[.slice vq n.v.length vc, .slice aq n.a.length ac, .slice tq n.t.length tc] 28))
  have KB0 : Hid (Blk W0 B #[.slice vq n.v.length vc, .slice aq n.a.length ac, .slice tq n.t.length tc] 28) := by rw [hW0]; exact Lib.hid (Blk.new _ _ _ _ hB)
  have BB0 : Hid (Below w.heap.size w W0) := by rw [hW0]; exact Lib.hid (below_new8 _)
  have HNV := Lib.hid (h.below BB0.out)
  have HIN := Lib.hid hin
  have HSM := Lib.hid hsm
  have hz0 : B < W0.heap.size := KB0.out.lt
  clear h hS hin hsm
  obtain ⟨F, hF⟩ : ∃ F, chkN n = F := ⟨_, rfl⟩
  have HF := Lib.hid hF
  have hor := @flt_or n
  rw [hF] at hor
  clear hF
  go_enter Tryz.func14, Tryz.ntmps14
  obtain ⟨b0, b1, b2, -, -, -⟩ := KB0.out.o3
  go_upto_region 1 with fail
  rw [← hW0]
  clear hW0
  go_wp2_with fail
  refine (vcheckE HNV.out HSM.out HIN.out HF.out).mono ?_
  rintro ev w1 ⟨fv, rfl, hf, hb⟩
  have KB1 := Lib.hid (KB0.out.keep hb)
  have HB1 := Lib.hid (bOn BB0.out hb)
  have hz1 : B < w1.heap.size := KB1.out.lt
  rcases hor with ⟨e1, e2⟩ | ⟨e1, -, e2⟩
  case inr =>
    have hp : ¬ F.1 = [] := by intro h; rw [h] at e1; simp at e1
    obtain ⟨fb, rfl⟩ := flt_shape hf hp
    have HP : Hid (E5Post (encodeF n) w (.returned (.tuple #[.slice none 0 0, .iface 84 (.pointer (some ⟨fb, 0, none⟩))])) w1) := by
      unfold encodeF
      rw [HF.out, if_pos e2]
      exact Lib.hid ⟨_, _, rfl, U8s.nil _, hf, HB1.out⟩
    clear hf hb KB0 BB0 HNV e1 e2 hp KB1 HB1 b0 b1 b2
    go_wp2_with fail
    exact bodyPost_ret (v := .tuple #[.slice none 0 0, .iface 84 (.pointer (some ⟨fb, 0, none⟩))]) (by simp [results, Tryz.results14, go_sem]; try go_simp) rfl HP.out
  case inl =>
    obtain ⟨Fp, Fe⟩ := F
    simp only at e1 e2
    subst e1 e2
    obtain rfl := FaultV.none hf
    have h0 : (chkN n).2 = 0 := by rw [HF.out]
    have hg := good_of h0
    have HTG := Lib.hid hg.tOK
    have HVG := Lib.hid hg.vOK
    have HAG := Lib.hid hg.aOK
    have hsv := hg.sv
    have hsa := hg.sa
    have hst := hg.st
    have HC0 := Lib.hid h0
    obtain ⟨L3, h3⟩ : ∃ L, markL ++ encs [(n.t.length : Int), (n.v.length : Int), (n.a.length : Int)] = L := ⟨_, rfl⟩
    obtain ⟨L4, h4⟩ : ∃ L, L3 ++ encs (n.t.flatMap numsT) = L := ⟨_, rfl⟩
    obtain ⟨L5, h5⟩ : ∃ L, L4 ++ encs (numsV 0 0 n.v) = L := ⟨_, rfl⟩
    obtain ⟨L6, h6⟩ : ∃ L, L5 ++ encs (n.a.flatMap numsA) = L := ⟨_, rfl⟩
    have hbody : L6 = bodyN n := by rw [← h6, ← h5, ← h4, ← h3]; exact body_is n
    have hlens : L3.length ≤ 100 ∧ L4.length ≤ 1000000 ∧ L5.length ≤ 2000000 ∧ L6.length ≤ 4000000 := by
      have q1 := encs_len [(n.t.length : Int), (n.v.length : Int), (n.a.length : Int)]
      have q2 := encs_len (n.t.flatMap numsT)
      have q3 := encs_len (numsV 0 0 n.v)
      have q4 := encs_len (n.a.flatMap numsA)
      have q5 := flatT_len n.t (fun t ht => (chkT_len (HTG.out t ht)).2.2.1)
      rw [numsV_len] at q3
      rw [numsA_len] at q4
      simp only [List.length_cons, List.length_nil] at q1
      have m4 : markL.length = 4 := rfl
      have p3 : L3.length = markL.length + (encs [(n.t.length : Int), (n.v.length : Int), (n.a.length : Int)]).length := by rw [← h3, List.length_append]
      have p4 : L4.length = L3.length + (encs (n.t.flatMap numsT)).length := by rw [← h4, List.length_append]
      have p5 : L5.length = L4.length + (encs (numsV 0 0 n.v)).length := by rw [← h5, List.length_append]
      have p6 : L6.length = L5.length + (encs (n.a.flatMap numsA)).length := by rw [← h6, List.length_append]
      omega
    have HL3 := Lib.hid h3
    have HL4 := Lib.hid h4
    have HL5 := Lib.hid h5
    have HL6 := Lib.hid h6
    have HLN := Lib.hid hlens
    have HBD := Lib.hid hbody
    obtain ⟨N, hN⟩ : ∃ N, B + 1 = N := ⟨_, rfl⟩
    have hBN : B < N := by omega
    have hwN : w.heap.size ≤ N := by omega
    have hN1 : N ≤ w1.heap.size := by omega
    clear hf hb KB0 BB0 HNV h0 hg h3 h4 h5 h6 hlens hbody b0 b1 b2 hB hN hz0 hz1
    go_wp2_with fail
    refine' GG.wp_thenL _ 13 (EM [0, 1, 3, 6, 9, 12] (fun j => [[], markL, markL, L3, L4, L5, L6].getD j []) N w1 (.slice none 0 0) B #[.slice vq n.v.length vc, .slice aq n.a.length ac, .slice tq n.t.length tc] 28) [[], [0], [], [0, 1, 2], [], [4], [0, 1, 2, 3, 4, 5], [], [7], [0, 1, 2, 3, 4, 5, 6, 7, 8], [], [10], [0, 1, 2, 3, 4, 5, 6, 7, 8, 9, 10, 11]] (GG.Fact.prop (Rl := RlE) _ _ :: GG.Fact.prop (Rl := RlE) _ _ :: GG.Fact.lit (Rl := RlE) _ :: GG.Fact.prop (Rl := RlE) _ _ :: GG.Fact.lit (Rl := RlE) _ :: GG.Fact.lit (Rl := RlE) _ :: GG.Fact.prop (Rl := RlE) _ _ :: GG.Fact.lit (Rl := RlE) _ :: GG.Fact.lit (Rl := RlE) _ :: GG.Fact.prop (Rl := RlE) _ _ :: GG.Fact.lit (Rl := RlE) _ :: GG.Fact.lit (Rl := RlE) _ :: GG.Fact.prop (Rl := RlE) _ _ :: []) (by kernel_rfl) rfl (by kernel_rfl) (0, .slice none 0 0) (EM.start rfl KB1.out) ?seqpe
    case' seqpe => skip
    (refine' GG.grow_any_op (p := MF N) (hp := MF.ste) rfl ?wtpe0 ?runpe0 ?putpe0 ?nextpe0; (case wtpe0 => rfl); (case runpe0 => (intro dn s w' hS hd H; (have hd0 := hd); (have hb := hS.at (j := 0) rfl hd hS.first); (have hz := hb.2.2.2); refine ⟨.slice (some ⟨w'.heap.size, 0, none⟩) 4 4, (1, .slice (some ⟨w'.heap.size, 0, none⟩) 4 4), w'.alloc (.cells #[.int .u8 82, .int .u8 78, .int .u8 68, .int .u8 49] 5), ?_, ?_⟩; (focus (clear H hb; go_simp; first | done | exact rfl)); (have ho : OwnB N (w'.alloc (.cells #[.int .u8 82, .int .u8 78, .int .u8 68, .int .u8 49] 5)) (.slice (some ⟨w'.heap.size, 0, none⟩) 4 4) markL := OwnB.lit markL (by simp [markL]) (by omega)); (have hp := hS.put (v' := .slice (some ⟨w'.heap.size, 0, none⟩) 4 4) (w' := w'.alloc (.cells #[.int .u8 82, .int .u8 78, .int .u8 68, .int .u8 49] 5)) (j := 0) hBN rfl hd hS.first (Or.inl ho) (fun _ => ho) ⟨⟨rfl, rfl, rfl, (below_new8 _).size, fun k hk _ => (below_new8 _).block k hk⟩, Or.inr (fun g hg => by simp [Value.ownBlock] at hg; omega)⟩); exact ⟨⟨hp.1, fun _ => ⟨_, rfl, Blk.new _ _ _ _ rfl, by omega⟩⟩, hp.2⟩)); (case putpe0 => (intro v; (simp only [Act.put, List.setIfInBounds_toArray, List.set_cons_zero, List.set_cons_succ]; first | done | exact rfl))); (case' nextpe0 => intro v0))
    (refine' GG.grow_any_op (p := GG.CF 2) (hp := CF.ste) rfl ?wtpe1 ?runpe1 ?putpe1 ?nextpe1; (case wtpe1 => rfl); (case runpe1 => (intro dn s w' hS hd H; (have hm : MF N v0 s w' := H 0 (by decide)); (have hb := hS.at (j := 1) rfl hd hm.1); (obtain ⟨x, rfl, hx, hxN⟩ := hm.2 hb.2.2.1); (obtain ⟨w2, hr, hg, hh⟩ := conv_mark (n := 4) (c := 4) hx); refine ⟨.slice (some ⟨x, 0, none⟩) 4 4, (2, .slice (some ⟨x, 0, none⟩) 4 4), w2, ?_, ?_⟩; (focus (clear H; go_simp; first | done | (rw [hr]; first | done | exact rfl))); exact hS.put (j := 1) hBN rfl hd hm.1 (Or.inr ⟨by simp [markL], x, rfl, hxN, U8at.row (l := markL) hh (by simp [markL])⟩) (fun h => absurd rfl h) ⟨hg, Or.inl rfl⟩)); (case putpe1 => (intro v; (simp only [Act.put, List.setIfInBounds_toArray, List.set_cons_zero, List.set_cons_succ]; first | done | exact rfl))); (case' nextpe1 => intro v1))
    (refine' GG.grow_lit (EM.still _) rfl ?wtpe2 ?runpe2 ?putpe2 ?nextpe2; (case wtpe2 => rfl); (case runpe2 => (intro w' hS; (obtain ⟨dn, s, hS⟩ := hS); (obtain ⟨d0, d1, d2, -⟩ := hS.blk.o3); clear hS; go_simp; first | done | exact rfl)); (case putpe2 => (simp only [Act.put, List.setIfInBounds_toArray, List.set_cons_zero, List.set_cons_succ]; first | done | exact rfl)); (case' nextpe2 => skip))
    (refine' GG.grow_any_call (p := GG.CF 3) (hp := CF.ste) rfl Tryz.func41 (by kernel_rfl) rfl rfl ?wtpe3 ?runpe3 ?putpe3 ?nextpe3; (case wtpe3 => rfl); (case runpe3 => (intro dn s w' hS hd H; (have h1 : GG.CF 2 v1 s w' := H 1 (by decide)); (have hb := hS.at (j := 2) rfl hd h1); exact (vAddCounts hb.1 hb.1.lt (Nat.le_trans hN1 hb.2.2.2) (by show markL.length ≤ _; simp [markL]) (by omega) (by omega) (by omega)).mono (fun ev w2 ⟨v', e, ho', he'⟩ => ⟨v', _, e, hS.put (j := 2) hBN rfl hd h1 (Or.inl (by rw [← HL3.out]; exact ho')) (fun _ => by rw [← HL3.out]; exact ho') he'⟩))); (case putpe3 => (intro v; (simp only [Act.put, List.setIfInBounds_toArray, List.set_cons_zero, List.set_cons_succ]; first | done | exact rfl))); (case' nextpe3 => intro v3))
    (refine' GG.grow_lit (EM.still _) rfl ?wtpe4 ?runpe4 ?putpe4 ?nextpe4; (case wtpe4 => rfl); (case runpe4 => (intro w' hS; (obtain ⟨dn, s, hS⟩ := hS); (obtain ⟨d0, d1, d2, -⟩ := hS.blk.o3); clear hS; go_simp; first | done | exact rfl)); (case putpe4 => (simp only [Act.put, List.setIfInBounds_toArray, List.set_cons_zero, List.set_cons_succ]; first | done | exact rfl)); (case' nextpe4 => skip))
    (refine' GG.grow_lit (EM.still _) rfl ?wtpe5 ?runpe5 ?putpe5 ?nextpe5; (case wtpe5 => rfl); (case runpe5 => (intro w' hS; (obtain ⟨dn, s, hS⟩ := hS); (obtain ⟨d0, d1, d2, -⟩ := hS.blk.o3); clear hS; go_simp; first | done | exact rfl)); (case putpe5 => (simp only [Act.put, List.setIfInBounds_toArray, List.set_cons_zero, List.set_cons_succ]; first | done | exact rfl)); (case' nextpe5 => skip))
    (refine' GG.grow_any_call (p := GG.CF 4) (hp := CF.ste) rfl Tryz.func40 (by kernel_rfl) rfl rfl ?wtpe6 ?runpe6 ?putpe6 ?nextpe6; (case wtpe6 => rfl); (case runpe6 => (intro dn s w' hS hd H; (have h1 : GG.CF 3 v3 s w' := H 3 (by decide)); (have hb := hS.at (j := 3) rfl hd h1); (have hlow : Below N w1 w' := hS.ext.low (fun g hg => by cases hg) hN1); exact (vAddTypes (w0 := w) (hb.2.1 (by decide)) (Nat.le_trans hN1 hb.2.2.2) HNS.out.t (HB1.out.trans (hlow.mono hwN)) hwN HTG.out (by omega) (by have := HLN.out; show L3.length ≤ _; omega)).mono (fun ev w2 ⟨v', e, ho', he'⟩ => ⟨v', _, e, hS.put (j := 3) hBN rfl hd h1 (Or.inl (by rw [← HL4.out]; exact ho')) (fun _ => by rw [← HL4.out]; exact ho') he'⟩))); (case putpe6 => (intro v; (simp only [Act.put, List.setIfInBounds_toArray, List.set_cons_zero, List.set_cons_succ]; first | done | exact rfl))); (case' nextpe6 => intro v6))
    (refine' GG.grow_lit (EM.still _) rfl ?wtpe7 ?runpe7 ?putpe7 ?nextpe7; (case wtpe7 => rfl); (case runpe7 => (intro w' hS; (obtain ⟨dn, s, hS⟩ := hS); (obtain ⟨d0, d1, d2, -⟩ := hS.blk.o3); clear hS; go_simp; first | done | exact rfl)); (case putpe7 => (simp only [Act.put, List.setIfInBounds_toArray, List.set_cons_zero, List.set_cons_succ]; first | done | exact rfl)); (case' nextpe7 => skip))
    (refine' GG.grow_lit (EM.still _) rfl ?wtpe8 ?runpe8 ?putpe8 ?nextpe8; (case wtpe8 => rfl); (case runpe8 => (intro w' hS; (obtain ⟨dn, s, hS⟩ := hS); (obtain ⟨d0, d1, d2, -⟩ := hS.blk.o3); clear hS; go_simp; first | done | exact rfl)); (case putpe8 => (simp only [Act.put, List.setIfInBounds_toArray, List.set_cons_zero, List.set_cons_succ]; first | done | exact rfl)); (case' nextpe8 => skip))
    (refine' GG.grow_any_call (p := GG.CF 5) (hp := CF.ste) rfl Tryz.func39 (by kernel_rfl) rfl rfl ?wtpe9 ?runpe9 ?putpe9 ?nextpe9; (case wtpe9 => rfl); (case runpe9 => (intro dn s w' hS hd H; (have h1 : GG.CF 4 v6 s w' := H 6 (by decide)); (have hb := hS.at (j := 4) rfl hd h1); (have hlow : Below N w1 w' := hS.ext.low (fun g hg => by cases hg) hN1); exact (vAddVerts (hb.2.1 (by decide)) (Nat.le_trans hN1 hb.2.2.2) (fun w'' hw => HNS.out.v.below ((HB1.out.trans (hlow.mono hwN)).trans (hw.mono hwN))) HVG.out (by omega) (by have := HLN.out; show L4.length ≤ _; omega)).mono (fun ev w2 ⟨v', e, ho', he'⟩ => ⟨v', _, e, hS.put (j := 4) hBN rfl hd h1 (Or.inl (by rw [← HL5.out]; exact ho')) (fun _ => by rw [← HL5.out]; exact ho') he'⟩))); (case putpe9 => (intro v; (simp only [Act.put, List.setIfInBounds_toArray, List.set_cons_zero, List.set_cons_succ]; first | done | exact rfl))); (case' nextpe9 => intro v9))
    (refine' GG.grow_lit (EM.still _) rfl ?wtpe10 ?runpe10 ?putpe10 ?nextpe10; (case wtpe10 => rfl); (case runpe10 => (intro w' hS; (obtain ⟨dn, s, hS⟩ := hS); (obtain ⟨d0, d1, d2, -⟩ := hS.blk.o3); clear hS; go_simp; first | done | exact rfl)); (case putpe10 => (simp only [Act.put, List.setIfInBounds_toArray, List.set_cons_zero, List.set_cons_succ]; first | done | exact rfl)); (case' nextpe10 => skip))
    (refine' GG.grow_lit (EM.still _) rfl ?wtpe11 ?runpe11 ?putpe11 ?nextpe11; (case wtpe11 => rfl); (case runpe11 => (intro w' hS; (obtain ⟨dn, s, hS⟩ := hS); (obtain ⟨d0, d1, d2, -⟩ := hS.blk.o3); clear hS; go_simp; first | done | exact rfl)); (case putpe11 => (simp only [Act.put, List.setIfInBounds_toArray, List.set_cons_zero, List.set_cons_succ]; first | done | exact rfl)); (case' nextpe11 => skip))
    (refine' GG.grow_any_call (p := GG.CF 6) (hp := CF.ste) rfl Tryz.func38 (by kernel_rfl) rfl rfl ?wtpe12 ?runpe12 ?putpe12 ?nextpe12; (case wtpe12 => rfl); (case runpe12 => (intro dn s w' hS hd H; (have h1 : GG.CF 5 v9 s w' := H 9 (by decide)); (have hb := hS.at (j := 5) rfl hd h1); (have hlow : Below N w1 w' := hS.ext.low (fun g hg => by cases hg) hN1); exact (vAddArcs (hb.2.1 (by decide)) (Nat.le_trans hN1 hb.2.2.2) (fun w'' hw => HNS.out.a.below ((HB1.out.trans (hlow.mono hwN)).trans (hw.mono hwN))) HAG.out (by omega) (by have := HLN.out; show L5.length ≤ _; omega)).mono (fun ev w2 ⟨v', e, ho', he'⟩ => ⟨v', _, e, hS.put (j := 5) hBN rfl hd h1 (Or.inl (by rw [← HL6.out]; exact ho')) (fun _ => by rw [← HL6.out]; exact ho') he'⟩))); (case putpe12 => (intro v; (simp only [Act.put, List.setIfInBounds_toArray, List.set_cons_zero, List.set_cons_succ]; first | done | exact rfl))); (case' nextpe12 => intro v12))
    intro dn s w9 hS hdn hk9
    have h12 : GG.CF 6 v12 s w9 := hk9 12 (by decide)
    obtain ⟨ho, he⟩ := hS.last rfl (by decide) h12
    have ho' : OwnB N w9 v12 L6 := ho
    have HO := Lib.hid ho'
    have HB9 := Lib.hid (HB1.out.trans ((he.low (fun g hg => by cases hg) hN1).mono hwN))
    have hN9 : N ≤ w9.heap.size := by have := he.g.size; omega
    clear hS hdn hk9 h12 ho he ho' HB1 KB1
    refine wpAny_ready (rs := [13]) (by kernel_rfl) (by simp) (AllReady.cons rfl (fun K hK => ?_) AllReady.nil)
    go_simp
    refine hK _ _ ?_
    clear hK K
    refine wpAny_done (by kernel_rfl) ?_ _
    go_wp2_with fail
    refine (wsum_any v12 L6 w9 (HO.out.u8s (by have := HLN.out; omega)) (by rw [HBD.out]; exact bodyN_in8 HC0.out)).mono ?_
    rintro ev w10 ⟨sv, z, rfl, hsv', -, hb⟩
    have hsl : (sumB L6).length = 4 := sumB_len L6
    have hLl := HLN.out.2.2.2
    obtain ⟨v11, w11, hrun, ho, he⟩ := BufV.app (Or.inl (own_below8 HO.out hb)) (by have := hb.size; omega) ⟨z, hsv'⟩ (by intro h; rw [h] at hsl; simp at hsl) (by omega)
    have hfile : L6 ++ sumB L6 = fileN n := by rw [HBD.out]; rfl
    rw [hfile] at ho
    obtain ⟨q, cq, rfl⟩ := ho.shape
    have HRUN := Lib.hid hrun
    have hfl : (fileN n).length ≤ 5000000 := by rw [← hfile, List.length_append]; omega
    have HB11 := Lib.hid (HB9.out.trans (((Ext.below v12 hb).trans he).low (fun g hg => Nat.le_trans hwN (HO.out.ge g hg)) (by omega)))
    have HU11 := Lib.hid (ho.u8s (by omega))
    clear hsv' hb hrun ho he hsl hLl hfile HO HB9 hN9
    go_upto_region 6 with (at_builtin; refine wpList_append_run rfl _ _ 22 rfl _ _ _ rfl rfl HRUN.out ?_)
    by_cases hbig : 65536 < (fileN n).length
    · have d1 : decide ((65536 : Int) < ((fileN n).length : Int)) = true := decide_eq_true (by omega)
      go_wp2_with fail
      refine (vFault 4 _).mono ?_
      rintro ev w12 ⟨v, rfl, hv, hb⟩
      have HP : Hid (E5Post (encodeF n) w (.returned (.tuple #[.slice none 0 0, v])) w12) := by
        unfold encodeF
        rw [if_neg (by rw [HC0.out]; simp), if_pos hbig]
        exact Lib.hid ⟨_, _, rfl, U8s.nil _, hv, bOn HB11.out hb⟩
      clear hv hb
      go_wp2_with fail
      exact bodyPost_ret (v := .tuple #[.slice none 0 0, v]) (by simp [results, Tryz.results14, go_sem]; try go_simp) rfl HP.out
    · have d1 : decide ((65536 : Int) < ((fileN n).length : Int)) = false := decide_eq_false (by omega)
      have HP : Hid (E5Post (encodeF n) w (.returned (.tuple #[.slice q (fileN n).length cq, .nilIface])) w11) := by
        unfold encodeF
        rw [if_neg (by rw [HC0.out]; simp), if_neg hbig]
        exact Lib.hid ⟨_, _, rfl, HU11.out, Or.inl ⟨rfl, rfl⟩, HB11.out⟩
      go_wp2_with fail
      exact bodyPost_ret (v := .tuple #[.slice q (fileN n).length cq, .nilIface]) (by simp [results, Tryz.results14, go_sem]; try go_simp) rfl HP.out

end Go.Proofs.YtjapdbegfanfiaaGreatDoor
