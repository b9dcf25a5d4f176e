/-
  A flow of the greatest value: the program's Max.
-/
import Derived.Test.YtleheaffipokfaaDoorFlJ
import Derived.Test.YtleheaffipokfaaDoorFlQ
namespace Go.Proofs.YtleheaffipokfaaDoor
open Go.RowKit

/-- What Max answers, of what may be handed in but for a vertex in both sets. -/
def MaxPost (w : World) (N : Nat) (E : Edg) (S D : List Nat) (e : Ending) (w' : World) : Prop :=
  Below w.heap.size w w' ∧ ((¬ Twice (zN S) (zN D) ∧ ∃ V f near far fv nv gv, e = .returned (.tuple #[.agg #[.int .i64 V, fv, nv, gv], .nilIface]) ∧ I64s w' fv f ∧ Bools w' nv near ∧ Bools w' gv far ∧ PrvQ N E S D V f near far) ∨
    (Twice (zN S) (zN D) ∧ ∃ g, e = .returned (.tuple #[.agg #[.int .i64 0, .slice none 0 0, .slice none 0 0, .slice none 0 0], .iface 59 (pt g)]) ∧ FaultAt w' g ⟨#[102, 108, 111, 119]⟩ 2 6))
theorem WebS.bound {P : Nat → Prop} {w : World} {p N : Nat} {E : Edg} {A B : List Bool} {ev sv dv fv : Value} {ab : Nat} {us : List Value} (h : WebS P w p N E A B ev sv dv fv ab us) : WebS (fun b => P b ∧ b < w.heap.size) w p N E A B ev sv dv fv ab us := by
  have both : ∀ {v : Value}, Av P v → Av (fun b => b < w.heap.size) v → Av (fun b => P b ∧ b < w.heap.size) v := fun h1 h2 b o s n c e h0 => ⟨h1 b o s n c e h0, h2 b o s n c e h0⟩
  exact ⟨h.k, ⟨h.p, h.k.lt⟩, h.e, both h.ea h.e.av, h.b, ⟨h.bp, h.b.lt⟩, h.ul, fun i u hu => ⟨(h.u i u hu).1, both (h.u i u hu).2 (h.u i u hu).1.av⟩, h.s, both h.sa h.s.av, h.d, both h.da h.d.av, h.al, h.bl, h.ein, h.nn, h.en⟩
theorem Blk.set4 {w : World} {b : Nat} {t : TypeId} {x0 x1 x2 x3 : Value} (h : Blk w b #[x0, x1, x2, x3] t) (y0 y1 y2 y3 : Value) : Blk ((((w.setCell ⟨b, 0, none⟩ y0).setCell ⟨b, 1, none⟩ y1).setCell ⟨b, 2, none⟩ y2).setCell ⟨b, 3, none⟩ y3) b #[y0, y1, y2, y3] t := by
  have := (((h.set 0 y0).set 1 y1).set 2 y2).set 3 y3
  simpa using this
theorem Keep.set4 {P : Nat → Prop} (w : World) {b : Nat} (hb : ¬ P b) (y0 y1 y2 y3 : Value) : Keep P w ((((w.setCell ⟨b, 0, none⟩ y0).setCell ⟨b, 1, none⟩ y1).setCell ⟨b, 2, none⟩ y2).setCell ⟨b, 3, none⟩ y3) :=
  ((((Keep.refl _ _).setCell hb _ _).setCell hb _ _).setCell hb _ _).setCell hb _ _
/-- The loop's head. -/
def MaxRel (K N : Nat) (E : Edg) (A B : List Bool) (ev sv dv : Value) (us : List Value) (p ab fb rb : Nat) (w : World) (s9 : Value) (wr : World) : Prop :=
  ∃ (V s : Nat) (f : List Int), s9 = .int .i64 s ∧ WebF K rb N E A B ev sv dv us p ab fb wr f ∧ Blk wr rb #[.int .i64 V, .slice (some ⟨fb, 0, none⟩) E.length E.length, .slice none 0 0, .slice none 0 0] 30 ∧ Keep (fun b => b ≠ fb ∧ b ≠ rb) w wr ∧ IsFlow N E (setB A) (setB B) f ∧ valF N E (setB A) f = V + s ∧ (s = 0 → ∀ v, v < N → setB B v = true → ¬ Rch E f 1 (setB A) v)
theorem fL_rep (k i : Nat) : fL (List.replicate k 0) i = 0 := by
  unfold fL
  rw [List.getD_eq_getElem?_getD, List.getElem?_replicate]
  split <;> rfl
theorem netF_zero (E : Edg) (k v : Nat) : netF E (List.replicate k 0) v = 0 := by
  unfold netF
  rw [sumN_congr (h := fun _ => 0) fun i _ => by rw [fL_rep]; simp]
  exact sumN_zero _
theorem flow_zero (N : Nat) (E : Edg) (A B : VSet) : IsFlow N E A B (List.replicate E.length 0) ∧ valF N E A (List.replicate E.length 0) = 0 := by
  refine ⟨⟨by simp, fun i _ => by rw [fL_rep]; omega, fun i _ _ => fL_rep _ _, fun v _ _ _ => netF_zero _ _ _⟩, ?_⟩
  unfold valF
  rw [sumN_congr (h := fun _ => 0) fun v _ => by rw [netF_zero]; simp]
  exact sumN_zero _
section
variable {w : World} {N : Nat} {E : Edg} {S D : List Nat} {ev sv dv : Value}
set_option maxHeartbeats 8000000 in
set_option maxRecDepth 100000 in
theorem max_is (he : Prs w ev (zE E)) (hs : I64s w sv (zN S)) (hd : I64s w dv (zN D)) (hn : N ≤ 4096) (hl : E.length ≤ 16384) (hsl : S.length ≤ 1000000) (hdl : D.length ≤ 1000000) (hok : OkA N (zE E) (zN S) (zN D)) (hEI : EdgIn N E) (hS : ∀ x, x ∈ S → x < N) (hD : ∀ x, x ∈ D → x < N) :
    Calls Tryd.prog 9 #[.int .i64 N, ev, sv, dv] w (MaxPost w N E S D) := by
  obtain ⟨eq0, ec0, rfl⟩ := he.shape
  rw [zE_len] at he
  rw [zE_len]
  obtain ⟨W0, hW0⟩ := named (w.alloc (.cells #[.int .i64 0, .slice none 0 0, .slice none 0 0, .slice none 0 0] 30))
  have hb0 : Below w.heap.size w W0 := by rw [hW0]; exact below_alloc1 _
  obtain ⟨qb, hqb⟩ : ∃ qb, w.heap.size = qb := ⟨_, rfl⟩
  have kq : Blk W0 qb #[.int .i64 0, .slice none 0 0, .slice none 0 0, .slice none 0 0] 30 := by rw [hW0]; exact Blk.new _ _ _ _ hqb
  have HE := Lib.hid (he.below hb0)
  have HS := Lib.hid (hs.below hb0)
  have HD := Lib.hid (hd.below hb0)
  have HEAV := Lib.hid he.av
  have HB0 := Lib.hid hb0
  have KQ := Lib.hid kq
  have HQB := Lib.hid hqb
  have HOK := Lib.hid hok
  have HEI := Lib.hid hEI
  have HSN := Lib.hid hS
  have HDN := Lib.hid hD
  have HL := Lib.hid hl
  have e0 := hW0.symm
  clear he hs hd hb0 kq hW0 hok hEI hS hD
  go_enter Tryd.func9, Tryd.ntmps9
  go_wp2_with fail
  clear e0
  refine (check_is HE.out HS.out HD.out (by omega) (by rw [zE_len]; exact HL.out) (by rw [zN_len]; exact hsl) (by rw [zN_len]; exact hdl)).mono ?_
  rintro e w1 ⟨hb1, ⟨-, htw, rfl⟩ | ⟨-, htw, g, rfl, hfa⟩ | ⟨hno, -⟩⟩
  case inr.inr => exact absurd HOK.out hno
  case inr.inl =>
    have hk1 := KQ.out.keep hb1
    obtain ⟨c0, c1, c2, c3, f0, f1, f2, f3⟩ := hk1.o4
    have hql := hk1.lt
    have HK1 := Lib.hid hk1
    have HFA := Lib.hid hfa
    have HTW := Lib.hid htw
    have HB1 := Lib.hid (bOn6 HB0.out hb1)
    clear hb1 hk1 hfa htw
    go_wp2_with fail
    have hkw := HK1.out.set4 (.int .i64 0) (.slice none 0 0) (.slice none 0 0) (.slice none 0 0)
    have hkp := Keep.set4 (P := fun b => b ≠ qb) w1 (b := qb) (by simp) (.int .i64 0) (.slice none 0 0) (.slice none 0 0) (.slice none 0 0)
    obtain ⟨w9, hw9⟩ := named ((((w1.setCell ⟨qb, 0, none⟩ (.int .i64 0)).setCell ⟨qb, 1, none⟩ (.slice none 0 0)).setCell ⟨qb, 2, none⟩ (.slice none 0 0)).setCell ⟨qb, 3, none⟩ (.slice none 0 0))
    rw [← hw9] at hkw hkp
    rw [← hw9]
    have hgq : g ≠ qb := blk_ne HFA.out HK1.out (by decide)
    have HP : Hid (MaxPost w N E S D (.returned (.tuple #[.agg #[.int .i64 0, .slice none 0 0, .slice none 0 0, .slice none 0 0], .iface 59 (pt g)])) w9) := Lib.hid ⟨HB1.out.trans (hkp.below (fun b hb => by have := HQB.out; omega) HB1.out.size), Or.inr ⟨HTW.out, g, rfl, hkp.blk HFA.out hgq⟩⟩
    obtain ⟨r0, r1, r2, r3, -⟩ := hkw.o4
    clear hkw hkp hw9 hgq
    exact bodyPost_ret (v := .tuple #[.agg #[.int .i64 0, .slice none 0 0, .slice none 0 0, .slice none 0 0], .iface 59 (pt g)]) (by simp [results, Tryd.results9, go_sem, r0, r1, r2, r3]) rfl HP.out
  have hE1 : Prs w1 (.slice eq0 E.length ec0) (zE E) := HE.out.below hb1
  have HTW := Lib.hid htw
  have HB1 := Lib.hid (bOn6 HB0.out hb1)
  have KQ1 := Lib.hid (KQ.out.keep hb1)
  have HS1 := HS.out.below hb1
  have HD1 := HD.out.below hb1
  obtain ⟨fb, hfb⟩ : ∃ fb, w1.heap.size = fb := ⟨_, rfl⟩
  have hmk := RI.make1 w1 23 3 (.int .i64 0) 8 rfl Tryd.underlying23 infoInt E.length HL.out (by decide)
  obtain ⟨w2, hw2⟩ := named (w1.alloc (.cells (List.replicate E.length (.int .i64 0)).toArray 3))
  have hb2 : Below w1.heap.size w1 w2 := by rw [hw2]; exact below_alloc1 _
  have kf2 : Blk w2 fb (numI (List.replicate E.length 0)) 3 := by rw [hw2, numI_rep]; exact Blk.new _ _ _ _ hfb
  rw [← hw2, hfb] at hmk
  obtain ⟨w3, hw3⟩ := named (w2.alloc (.cells #[.int .i64 0, .slice (some ⟨fb, 0, none⟩) E.length E.length, .slice none 0 0, .slice none 0 0] 30))
  have hb3 : Below w2.heap.size w2 w3 := by rw [hw3]; exact below_alloc1 _
  obtain ⟨rb, hrb⟩ : ∃ rb, w2.heap.size = rb := ⟨_, rfl⟩
  have kr3 : Blk w3 rb #[.int .i64 0, .slice (some ⟨fb, 0, none⟩) E.length E.length, .slice none 0 0, .slice none 0 0] 30 := by rw [hw3]; exact Blk.new _ _ _ _ hrb
  have hb13 := bOn6 hb2 hb3
  have hz : w.heap.size ≤ fb ∧ fb < rb ∧ rb < w3.heap.size ∧ w.heap.size ≤ w1.heap.size ∧ qb < fb := ⟨by have := HB1.out.size; omega, by have := kf2.lt; omega, kr3.lt, HB1.out.size, by have := KQ1.out.lt; omega⟩
  have HZ := Lib.hid hz
  have HE3 := Lib.hid (hE1.below hb13)
  have HS3 := Lib.hid (HS1.below hb13)
  have HD3 := Lib.hid (HD1.below hb13)
  have KQ3 := Lib.hid (KQ1.out.keep hb13)
  have KF3 := Lib.hid (kf2.keep hb3)
  have KR3 := Lib.hid kr3
  have HB3 := Lib.hid (bOn6 HB1.out hb13)
  have HW3 := Lib.hid hw3
  clear hb1 htw hE1 HE HS HD HS1 HD1 KQ KQ1 HB0 hfb hw2 hb2 kf2 hw3 hb3 kr3 hb13
  go_wp2_with fail
  rw [← HW3.out]
  clear HW3 hmk hrb
  have HFN : Hid (fb < w3.heap.size ∧ rb ≠ fb ∧ qb ≠ fb ∧ qb ≠ rb) := Lib.hid (by omega)
  refine (webOf_is (P := fun b => b ≠ fb ∧ b ≠ rb) HE3.out (HEAV.out.mono fun b hb => by have := HZ.out; omega) HEI.out hn HL.out HS3.out HSN.out hsl HD3.out HDN.out hdl ⟨_, _, _, rfl⟩ (fun b hb => by have := HFN.out; omega)).mono ?_
  rintro e w4 ⟨p, ab, us, sv2, dv2, rfl, hw, -, -, hb4⟩
  have hz4 := hb4.size
  have HA : Hid (∀ v, setB (markL N S) v = true → setB (markL N D) v = false) := Lib.hid fun v hv => by
    have hvN : v < N := by have := setB_lt hv; rwa [markL_len] at this
    rw [markL_in hvN] at hv
    rw [markL_in hvN]
    simp only [decide_eq_true_eq] at hv
    refine decide_eq_false fun hvd => HTW.out ⟨v, zN_mem.2 ⟨v, hv, rfl⟩, zN_mem.2 ⟨v, hvd, rfl⟩⟩
  obtain ⟨hf0, hv0⟩ := flow_zero N E (setB (markL N S)) (setB (markL N D))
  have HWF : Hid (WebF w4.heap.size rb N E (markL N S) (markL N D) (.slice eq0 E.length ec0) sv2 dv2 us p ab fb w4 (List.replicate E.length 0)) := Lib.hid ⟨hw.bound.mono (fun b h => ⟨h.1.1, h.1.2, h.2⟩), KF3.out.keep hb4, by simp, Nat.le_refl _⟩
  have HB4 := Lib.hid (bOn6 HB3.out hb4)
  have KR4 := Lib.hid (KR3.out.keep hb4)
  have KQ4 := Lib.hid (KQ3.out.keep hb4)
  have HF0 := Lib.hid hf0
  have HV0 := Lib.hid hv0
  clear hw hb4 hf0 hv0 HE3 HS3 HD3 KQ3 KF3 KR3 HB3
  go_wp2_with fail
  refine (fill_is HWF.out HF0.out HA.out (by rw [HV0.out]; omega)).mono ?_
  rintro e w5 ⟨s5, f5, rfl, hw5, hk5, hf5, hv5, hs5⟩
  have HR5 : Hid (MaxRel w4.heap.size N E (markL N S) (markL N D) (.slice eq0 E.length ec0) sv2 dv2 us p ab fb rb w4 (.int .i64 s5) w5) := Lib.hid ⟨0, s5, f5, rfl, hw5, hk5.blk KR4.out HFN.out.2.1, hk5.mono (fun b h => h.1), hf5, by rw [hv5, HV0.out]; rfl, fun h => by
    obtain ⟨h1, h2⟩ := hs5 h
    subst h1
    exact h2⟩
  clear hw5 hk5 hf5 hv5 hs5
  go_wp2_with fail
  go_loopw [13] (fun s9 wr => MaxRel w4.heap.size N E (markL N S) (markL N D) (.slice eq0 E.length ec0) sv2 dv2 us p ab fb rb w4 s9 wr) (fun _ wr => E.length - nxA wr rb 0)
  case atStart => exact HR5.out
  case round =>
    obtain ⟨V, s, f, rfl, hw, hr, hk, hf, hv, hs⟩ := hrel
    clear HR5
    have hmost := val_most hf hw.web.ein HA.out
    have HNX : Hid (nxA wr rb 0 = V) := Lib.hid (by unfold nxA; rw [hr.o4.1]; simp)
    obtain ⟨c0, c1, c2, c3, f0, f1, f2, f3⟩ := hr.o4
    have hrl := hr.lt
    have HEN := Lib.hid hw.web.en
    by_cases h0 : 0 < s
    · have hd9 : decide ((0 : Int) < (s : Int)) = true := by simpa using h0
      have hwv : IntKind.i64.wrap ((V : Int) + (s : Int)) = (V : Int) + (s : Int) := by have := HEN.out; rw [IntWalk.i64_in _ (by omega)]
      have hr2 := hr.set 0 (.int .i64 ((V : Int) + (s : Int)))
      obtain ⟨w6, hw6⟩ := named (wr.setCell ⟨rb, 0, none⟩ (.int .i64 ((V : Int) + (s : Int))))
      have hkp : Keep (fun b => b ≠ rb) wr w6 := by rw [hw6]; exact (Keep.refl _ _).setCell (by simp) _ _
      rw [← hw6] at hr2
      have HR6 : Hid (Blk w6 rb #[.int .i64 ((V + s : Nat) : Int), .slice (some ⟨fb, 0, none⟩) E.length E.length, .slice none 0 0, .slice none 0 0] 30) := Lib.hid (by rw [Int.natCast_add]; simpa using hr2)
      have HW6 : Hid (WebF w4.heap.size rb N E (markL N S) (markL N D) (.slice eq0 E.length ec0) sv2 dv2 us p ab fb w6 f) := Lib.hid ⟨hw.web.keep (hkp.mono (fun b h => h.2.1)), hkp.blk hw.fk (fun e => HFN.out.2.1 e.symm), hw.fl, Nat.le_trans hw.kw hkp.size⟩
      have HK6 : Hid (Keep (fun b => b ≠ fb ∧ b ≠ rb) w4 w6) := Lib.hid (hk.trans (hkp.mono (fun b h => h.2)))
      have HF6 := Lib.hid hf
      have HV6 := Lib.hid hv
      have HM6 : Hid (V + s ≤ E.length) := Lib.hid (by omega)
      have e6 := hw6.symm
      clear hr2 hkp hw6 hw hr hk hf hv hs hmost
      go_wp2_with fail
      refine (fill_is HW6.out HF6.out HA.out (by rw [HV6.out]; omega)).mono ?_
      rintro e w7 ⟨s7, f7, rfl, hw7, hk7, hf7, hv7, hs7⟩
      have hr7 := hk7.blk HR6.out HFN.out.2.1
      have HR7 : Hid (MaxRel w4.heap.size N E (markL N S) (markL N D) (.slice eq0 E.length ec0) sv2 dv2 us p ab fb rb w4 (.int .i64 s7) w7) := Lib.hid ⟨V + s, s7, f7, rfl, hw7, hr7, HK6.out.trans (hk7.mono (fun b h => h.1)), hf7, by rw [hv7, HV6.out]; omega, fun h => by
        obtain ⟨h1, h2⟩ := hs7 h
        subst h1
        exact h2⟩
      have HN7 : Hid (nxA w7 rb 0 = V + s) := Lib.hid (by unfold nxA; rw [hr7.o4.1]; simp; omega)
      clear hw7 hk7 hf7 hv7 hs7 hr7 e6
      go_wp2_with fail
      go_roundw
      case rel => exact HR7.out
      case measure => have := HM6.out; rw [HN7.out, HNX.out]; omega
    · obtain rfl : s = 0 := by omega
      have hsub : (E.length : Int) ≤ 16384 := by have := HEN.out; omega
      have HW6 := Lib.hid hw
      have HR6 := Lib.hid hr
      have HK6 := Lib.hid hk
      have HF6 := Lib.hid hf
      have HV6 := Lib.hid hv
      have HS6 := Lib.hid (hs rfl)
      have HFI : Hid (I64s wr (.slice (some ⟨fb, 0, none⟩) E.length E.length) f) := Lib.hid (i64s_of_blk hw.fk hw.fl (by omega))
      clear hw hr hk hf hv hs hmost c0 c1 c2 c3 f0 f1 f2 f3 hrl
      go_wp2_with fail
      refine (sides_is HW6.out.web HFI.out HW6.out.fl).mono ?_
      rintro e w7 ⟨nv7, gv7, near, far, rfl, hn7, hg7, hnl, hgl, hnr, hgr, hb7, han, hag⟩
      obtain ⟨nq7, nc7, rfl⟩ := hn7.shape
      obtain ⟨gq7, gc7, rfl⟩ := hg7.shape
      have hr7 := HR6.out.keep hb7
      have hk47 := HK6.out.on (hb7.mono HK6.out.size)
      have hq7 : Blk w7 qb #[.int .i64 0, .slice none 0 0, .slice none 0 0, .slice none 0 0] 30 := hk47.blk KQ4.out HFN.out.2.2
      have hfi7 := HFI.out.below hb7
      have HPQ : Hid (PrvQ N E S D V f near far) := Lib.hid ⟨HF6.out, by have := HV6.out; omega, hnl, hgl, hnr, hgr, fun v hv => HS6.out v (HDN.out v hv) (by rw [markL_in (HDN.out v hv)]; simpa using hv)⟩
      obtain ⟨c0, c1, c2, c3, f0, f1, f2, f3⟩ := hr7.o4
      have hrl := hr7.lt
      have ha := hr7.set 2 (.slice nq7 near.length nc7)
      obtain ⟨wa, hwa⟩ := named (w7.setCell ⟨rb, 2, none⟩ (.slice nq7 near.length nc7))
      have hka : Keep (fun b => b ≠ rb) w7 wa := by rw [hwa]; exact (Keep.refl _ _).setCell (by simp) _ _
      rw [← hwa] at ha
      have ha' : Blk wa rb #[.int .i64 V, .slice (some ⟨fb, 0, none⟩) E.length E.length, .slice nq7 near.length nc7, .slice none 0 0] 30 := by simpa using ha
      have hb := ha'.set 3 (.slice gq7 far.length gc7)
      obtain ⟨wb, hwb⟩ := named (wa.setCell ⟨rb, 3, none⟩ (.slice gq7 far.length gc7))
      have hkb : Keep (fun b => b ≠ rb) w7 wb := by rw [hwb]; exact hka.setCell (by simp) _ _
      rw [← hwb] at hb
      have hb' : Blk wb rb #[.int .i64 V, .slice (some ⟨fb, 0, none⟩) E.length E.length, .slice nq7 near.length nc7, .slice gq7 far.length gc7] 30 := by simpa using hb
      obtain ⟨a0, a1, a2, a3, af0, af1, af2, af3⟩ := ha'.o4
      have hal := ha'.lt
      obtain ⟨b0, b1, b2, b3, -⟩ := hb'.o4
      have hbl := hb'.lt
      have hqb2 : Blk wb qb #[.int .i64 0, .slice none 0 0, .slice none 0 0, .slice none 0 0] 30 := hkb.blk hq7 HFN.out.2.2.2
      obtain ⟨d0, d1, d2, d3, g0, g1, g2, g3⟩ := hqb2.o4
      have hql := hqb2.lt
      have hqw := hqb2.set4 (.int .i64 V) (.slice (some ⟨fb, 0, none⟩) E.length E.length) (.slice nq7 near.length nc7) (.slice gq7 far.length gc7)
      have hkp := Keep.set4 (P := fun b => b ≠ qb) wb (b := qb) (by simp) (.int .i64 V) (.slice (some ⟨fb, 0, none⟩) E.length E.length) (.slice nq7 near.length nc7) (.slice gq7 far.length gc7)
      obtain ⟨w9, hw9⟩ := named ((((wb.setCell ⟨qb, 0, none⟩ (.int .i64 V)).setCell ⟨qb, 1, none⟩ (.slice (some ⟨fb, 0, none⟩) E.length E.length)).setCell ⟨qb, 2, none⟩ (.slice nq7 near.length nc7)).setCell ⟨qb, 3, none⟩ (.slice gq7 far.length gc7))
      rw [← hw9] at hqw hkp
      have hlo7 : ∀ b, wr.heap.size ≤ b → b ≠ rb ∧ b ≠ qb := fun b hb => by
        have h1 := HR6.out.lt
        have h2 := (HK6.out.blk KQ4.out HFN.out.2.2).lt
        omega
      have hk79 : Keep (fun b => b ≠ rb ∧ b ≠ qb) w7 w9 := (hkb.mono (fun b h => h.1)).trans (hkp.mono (fun b h => h.2))
      have hk9 : Keep (fun b => b ≠ fb ∧ b ≠ rb ∧ b ≠ qb) w4 w9 := (hk47.mono (fun b h => ⟨h.1, h.2.1⟩)).trans (hk79.mono (fun b h => h.2))
      have HP : Hid (MaxPost w N E S D (.returned (.tuple #[.agg #[.int .i64 V, .slice (some ⟨fb, 0, none⟩) E.length E.length, .slice nq7 near.length nc7, .slice gq7 far.length gc7], .nilIface])) w9) := Lib.hid ⟨HB4.out.trans (hk9.below (fun b hb => by have := HZ.out; have := HQB.out; omega) HB4.out.size), Or.inl ⟨HTW.out, V, f, near, far, _, _, _, rfl, hfi7.keep (P := fun b => b ≠ rb ∧ b ≠ qb) (Av.at ⟨fun e => HFN.out.2.1 e.symm, fun e => HFN.out.2.2.1 e.symm⟩) hk79, hn7.keep (han.mono hlo7) hk79, hg7.keep (hag.mono hlo7) hk79, HPQ.out⟩⟩
      have ea := hwa.symm
      have eb := hwb.symm
      obtain ⟨r0, r1, r2, r3, -⟩ := hqw.o4
      clear hlo7 hk79 hk9 hn7 hg7 han hag hnl hgl hnr hgr hb7 hr7 hk47 hq7 hfi7 ha ha' hka hb hb' hkb hwa hwb hqb2 hqw hkp
      go_wp2_with fail
      rw [← hw9]
      exact bodyPost_ret (v := .tuple #[.agg #[.int .i64 V, .slice (some ⟨fb, 0, none⟩) E.length E.length, .slice nq7 near.length nc7, .slice gq7 far.length gc7], .nilIface]) (by simp [results, Tryd.results9, go_sem, r0, r1, r2, r3]) rfl HP.out
end
end Go.Proofs.YtleheaffipokfaaDoor
