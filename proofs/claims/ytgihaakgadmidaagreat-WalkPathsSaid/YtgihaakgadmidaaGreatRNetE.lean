/-
  The document's nets: what is wrong with one first.
-/
import Derived.Test.YtgihaakgadmidaaGreatA1
import Derived.Test.YtgihaakgadmidaaGreatRNetA
import Derived.Test.YtgihaakgadmidaaGreatA2
import Derived.Test.YtgihaakgadmidaaGreatGrow
import Derived.Deep.Cut
namespace Go.Proofs.YtgihaakgadmidaaGreat
open Go.RowKit

/-- The document's own At. -/
theorem at_is (p : ByteArray) (n e : Int) (w : World) : Calls Tryz.prog 73 #[.string p, .int .i64 n, .int .i64 e] w (WPost [(p, n)] e w) := by
  refine (at_any p n e w).mono ?_
  rintro ev w' ⟨rfl, rfl⟩
  exact ⟨_, rfl, atWorld_wrong p n e w, atWorld_below p n e w⟩
/-- A Wrong stays where a block without texts is written. -/
theorem wrong_set {w : World} {b : Nat} {x0 x1 : Value} {t : TypeId} (hk : Blk w b #[x0, x1] t) (h0 : ∀ s, x0 ≠ .string s) (h1 : ∀ s, x1 ≠ .string s) {v : Value} {ps : List (ByteArray × Int)} {e : Int} (h : WrongV w v ps e) (y0 y1 : Value) :
    WrongV ((w.setCell ⟨b, 0, none⟩ y0).setCell ⟨b, 1, none⟩ y1) v ps e :=
  h.only (((Only.refl [b] w).setCell 0 y0 (by simp)).setCell 1 y1 (by simp)) (NoStr.cons hk (by intro v hv s; simp at hv; rcases hv with rfl | rfl; exact h0 s; exact h1 s) (NoStr.nil w))
theorem rcoord_is (x : Int) (b : Bool) (w : World) (h : coordB x = b) : Calls Tryz.prog 76 #[.int .i64 x] w fun e w' => e = .returned (.bool b) ∧ w = w' := by
  unfold coordB at h
  by_cases h0 : -1048576 ≤ x
  · by_cases h1 : x ≤ 1048576
    · obtain rfl : b = true := by rw [← h]; simp [h0, h1]
      clear h
      have d0 : decide (-1048576 ≤ x) = true := by simpa using h0
      go_enter Tryz.func76, Tryz.ntmps76
      go_wp2
      go_ret
      exact ⟨rfl, rfl⟩
    · obtain rfl : b = false := by rw [← h]; simp; omega
      clear h
      have d0 : decide (-1048576 ≤ x) = true := by simpa using h0
      have d1 : decide (x ≤ 1048576) = false := by simpa using h1
      go_enter Tryz.func76, Tryz.ntmps76
      go_wp2
      go_ret
      exact ⟨rfl, rfl⟩
  · obtain rfl : b = false := by rw [← h]; simp; omega
    clear h
    have d0 : decide (-1048576 ≤ x) = false := by simpa using h0
    go_enter Tryz.func76, Tryz.ntmps76
    go_wp2
    go_ret
    exact ⟨rfl, rfl⟩
theorem rweight_b (a : Int) (b : Bool) (w : World) (h0 : -9223372036854775808 ≤ a) (h1 : a ≤ 9223372036854775807) (h : wgt a = b) :
    Calls Tryz.prog 77 #[.int .i64 a] w fun e w' => e = .returned (.bool b) ∧ w = w' := by
  subst h
  exact rweight_any a w h0 h1
theorem run_makeInts (n : Int) (h0 : 0 ≤ n) (h1 : n ≤ 1000000) (w : World) :
    (Instr.makeSlice 43 (.int .i64 n) (.int .i64 n)).run Tryz.prog w = .ok (.slice (some ⟨w.heap.size, 0, none⟩) n.toNat n.toNat) (w.alloc (.cells (madeCells #[.int .i64 0] n.toNat) 3)) := by
  obtain ⟨i0, hi, hz0, hz1, hz2⟩ := info_parts infoInt
  have := run_make (P := Tryz.prog) w 43 3 i0 (.int .i64 0) Tryz.underlying43 hi hz0 .i64 .i64 n n h0 (Int.le_refl _) (by rw [hz2]; omega) (by omega)
  rw [hz1, Nat.mul_one] at this
  exact this

/-- A row of counts, in memory. -/
def arrC (f : Nat → Int) (m : Nat) : Array Value := ((cntL f m).map (Value.int .i64)).toArray
theorem arrC_at (f : Nat → Int) {m i : Nat} (h : i < m) : (arrC f m)[i]? = some (.int .i64 (f i)) := by
  unfold arrC
  rw [List.getElem?_toArray, List.getElem?_map, cntL_at f h]
  rfl
theorem arrC_set {f g : Nat → Int} {m i : Nat} (h : i < m) (hi : g i = f i + 1) (ho : ∀ j, j ≠ i → g j = f j) : (arrC f m).setIfInBounds i (.int .i64 (f i + 1)) = arrC g m := by
  unfold arrC
  rw [List.setIfInBounds_toArray, ← List.map_set, cntL_set h hi ho]
theorem arrC_zero (m : Nat) : madeCells #[.int .i64 0] m = arrC (fun _ => 0) m := by
  apply Array.toList_inj.1
  rw [toList_madeCells_one]
  unfold arrC
  rw [cntL_zero]
  simp

/-- v points to a table of the call's own, which is empty. -/
def PtrRTab (W : World) (v : Value) (w : World) : Prop := ∃ b, v = .pointer (some ⟨b, 0, none⟩) ∧ W.heap.size ≤ b ∧ Blk w b #[.int .i64 0, .int .i64 0, .slice none 0 0] 68
theorem PtrRTab.below {W w w' : World} {v : Value} (h : PtrRTab W v w) (hb : Below w.heap.size w w') : PtrRTab W v w' := by
  obtain ⟨b, e, h1, h2⟩ := h
  exact ⟨b, e, h1, h2.keep hb⟩

set_option maxHeartbeats 1000000 in
set_option maxRecDepth 100000 in
theorem rchk_long0 (n : NetD) (vq aq tq : Option Addr) (vc ac tc : Nat) (w : World)  (h0 : 4096 < n.v.length) : Calls Tryz.prog 48 #[netVal n vq aq tq vc ac tc] w (WPost (chkN n).1 (chkN n).2 w) := by
  have HR : Hid (chkN n = ([(netB, 0)], 4)) := Lib.hid (by unfold chkN; rw [if_pos h0])
  have d0 : decide ((4096 : Int) < (n.v.length : Int)) = true := decide_eq_true (by omega)
  go_enter Tryz.func48, Tryz.ntmps48
  go_wp2_with fail
  obtain ⟨W0, hW0⟩ := named ((w.alloc (.cells #[.slice vq n.v.length vc, .slice aq n.a.length ac, .slice tq n.t.length tc] 26)).alloc (.cells #[.slice none 0 0, .int .i64 0] 91))
  rw [← hW0]
  have B0 : Hid (Below w.heap.size w W0) := by rw [hW0]; exact Lib.hid (below_alloc2 _ _)
  have KR : Hid (Blk W0 (w.heap.size + 1) #[.slice none 0 0, .int .i64 0] 91) := by rw [hW0]; exact Lib.hid (Blk.new _ _ _ _ (by simp))
  clear hW0
  refine (at_is netB 0 4 _).mono ?_
  rintro e wz ⟨wv, rfl, hW, hb⟩
  obtain ⟨gq, gn, gc, rfl⟩ := hW.shape
  have hkr := KR.out.keep hb
  have HF := Lib.hid (wrong_set hkr (fun s => by simp) (fun s => by simp) hW (.slice gq gn gc) (.int .i64 4))
  have HZ : Hid (Below w.heap.size w ((wz.setCell ⟨w.heap.size + 1, 0, none⟩ (.slice gq gn gc)).setCell ⟨w.heap.size + 1, 1, none⟩ (.int .i64 4))) := Lib.hid ((((B0.out.trans (hb.mono B0.out.size))).setCell (by simp only []; omega) _).setCell (by simp only []; omega) _)
  have hlt := hkr.lt
  obtain ⟨r0, r1, f0, f1⟩ := hkr.o2
  clear hkr hW hb
  go_wp2_with fail
  rw [HR.out]
  exact bodyPost_ret (v := .agg #[.slice gq gn gc, .int .i64 4]) (by simp [results, Tryz.results48, go_sem]; go_simp) rfl ⟨_, rfl, HF.out, HZ.out⟩

set_option maxHeartbeats 1000000 in
set_option maxRecDepth 100000 in
theorem rchk_long1 (n : NetD) (vq aq tq : Option Addr) (vc ac tc : Nat) (w : World)  (h0 : ¬ 4096 < n.v.length) (h1 : 16384 < n.a.length) : Calls Tryz.prog 48 #[netVal n vq aq tq vc ac tc] w (WPost (chkN n).1 (chkN n).2 w) := by
  have HR : Hid (chkN n = ([(netB, 1)], 4)) := Lib.hid (by unfold chkN; rw [if_neg h0, if_pos h1])
  have d0 : decide ((4096 : Int) < (n.v.length : Int)) = false := decide_eq_false (by omega)
  have d1 : decide ((16384 : Int) < (n.a.length : Int)) = true := decide_eq_true (by omega)
  go_enter Tryz.func48, Tryz.ntmps48
  go_wp2_with fail
  obtain ⟨W0, hW0⟩ := named ((w.alloc (.cells #[.slice vq n.v.length vc, .slice aq n.a.length ac, .slice tq n.t.length tc] 26)).alloc (.cells #[.slice none 0 0, .int .i64 0] 91))
  rw [← hW0]
  have B0 : Hid (Below w.heap.size w W0) := by rw [hW0]; exact Lib.hid (below_alloc2 _ _)
  have KR : Hid (Blk W0 (w.heap.size + 1) #[.slice none 0 0, .int .i64 0] 91) := by rw [hW0]; exact Lib.hid (Blk.new _ _ _ _ (by simp))
  clear hW0
  refine (at_is netB 1 4 _).mono ?_
  rintro e wz ⟨wv, rfl, hW, hb⟩
  obtain ⟨gq, gn, gc, rfl⟩ := hW.shape
  have hkr := KR.out.keep hb
  have HF := Lib.hid (wrong_set hkr (fun s => by simp) (fun s => by simp) hW (.slice gq gn gc) (.int .i64 4))
  have HZ : Hid (Below w.heap.size w ((wz.setCell ⟨w.heap.size + 1, 0, none⟩ (.slice gq gn gc)).setCell ⟨w.heap.size + 1, 1, none⟩ (.int .i64 4))) := Lib.hid ((((B0.out.trans (hb.mono B0.out.size))).setCell (by simp only []; omega) _).setCell (by simp only []; omega) _)
  have hlt := hkr.lt
  obtain ⟨r0, r1, f0, f1⟩ := hkr.o2
  clear hkr hW hb
  go_wp2_with fail
  rw [HR.out]
  exact bodyPost_ret (v := .agg #[.slice gq gn gc, .int .i64 4]) (by simp [results, Tryz.results48, go_sem]; go_simp) rfl ⟨_, rfl, HF.out, HZ.out⟩

set_option maxHeartbeats 1000000 in
set_option maxRecDepth 100000 in
theorem rchk_long2 (n : NetD) (vq aq tq : Option Addr) (vc ac tc : Nat) (w : World)  (h0 : ¬ 4096 < n.v.length) (h1 : ¬ 16384 < n.a.length) (h2 : 256 < n.t.length) : Calls Tryz.prog 48 #[netVal n vq aq tq vc ac tc] w (WPost (chkN n).1 (chkN n).2 w) := by
  have HR : Hid (chkN n = ([(netB, 2)], 4)) := Lib.hid (by unfold chkN; rw [if_neg h0, if_neg h1, if_pos h2])
  have d0 : decide ((4096 : Int) < (n.v.length : Int)) = false := decide_eq_false (by omega)
  have d1 : decide ((16384 : Int) < (n.a.length : Int)) = false := decide_eq_false (by omega)
  have d2 : decide ((256 : Int) < (n.t.length : Int)) = true := decide_eq_true (by omega)
  go_enter Tryz.func48, Tryz.ntmps48
  go_wp2_with fail
  obtain ⟨W0, hW0⟩ := named ((w.alloc (.cells #[.slice vq n.v.length vc, .slice aq n.a.length ac, .slice tq n.t.length tc] 26)).alloc (.cells #[.slice none 0 0, .int .i64 0] 91))
  rw [← hW0]
  have B0 : Hid (Below w.heap.size w W0) := by rw [hW0]; exact Lib.hid (below_alloc2 _ _)
  have KR : Hid (Blk W0 (w.heap.size + 1) #[.slice none 0 0, .int .i64 0] 91) := by rw [hW0]; exact Lib.hid (Blk.new _ _ _ _ (by simp))
  clear hW0
  refine (at_is netB 2 4 _).mono ?_
  rintro e wz ⟨wv, rfl, hW, hb⟩
  obtain ⟨gq, gn, gc, rfl⟩ := hW.shape
  have hkr := KR.out.keep hb
  have HF := Lib.hid (wrong_set hkr (fun s => by simp) (fun s => by simp) hW (.slice gq gn gc) (.int .i64 4))
  have HZ : Hid (Below w.heap.size w ((wz.setCell ⟨w.heap.size + 1, 0, none⟩ (.slice gq gn gc)).setCell ⟨w.heap.size + 1, 1, none⟩ (.int .i64 4))) := Lib.hid ((((B0.out.trans (hb.mono B0.out.size))).setCell (by simp only []; omega) _).setCell (by simp only []; omega) _)
  have hlt := hkr.lt
  obtain ⟨r0, r1, f0, f1⟩ := hkr.o2
  clear hkr hW hb
  go_wp2_with fail
  rw [HR.out]
  exact bodyPost_ret (v := .agg #[.slice gq gn gc, .int .i64 4]) (by simp [results, Tryz.results48, go_sem]; go_simp) rfl ⟨_, rfl, HF.out, HZ.out⟩

set_option maxHeartbeats 8000000 in
set_option maxRecDepth 100000 in
theorem rchk_main (n : NetD) (vq aq tq : Option Addr) (vc ac tc : Nat) (w : World) (h : NetS w n vq aq tq vc ac tc) (hs : NetSmall n) (hin : InNet n) : Calls Tryz.prog 48 #[netVal n vq aq tq vc ac tc] w (WPost (chkN n).1 (chkN n).2 w) := by
  obtain ⟨hsv, hsa, hst⟩ := hs
  have HSM := Lib.hid (NetSmall.mk hsv hsa hst)
  have HIN := Lib.hid hin
  have d0 : decide ((4096 : Int) < (n.v.length : Int)) = false := decide_eq_false (by omega)
  have d1 : decide ((16384 : Int) < (n.a.length : Int)) = false := decide_eq_false (by omega)
  have d2 : decide ((256 : Int) < (n.t.length : Int)) = false := decide_eq_false (by omega)
  clear hin
  go_enter Tryz.func48, Tryz.ntmps48
  go_wp2_with fail
  obtain ⟨W0, hW0⟩ := named ((w.alloc (.cells #[.slice vq n.v.length vc, .slice aq n.a.length ac, .slice tq n.t.length tc] 26)).alloc (.cells #[.slice none 0 0, .int .i64 0] 91))
  rw [← hW0]
  have B0 : Hid (Below w.heap.size w W0) := by rw [hW0]; exact Lib.hid (below_alloc2 _ _)
  have KN : Hid (Blk W0 w.heap.size #[.slice vq n.v.length vc, .slice aq n.a.length ac, .slice tq n.t.length tc] 26) := by rw [hW0]; exact Lib.hid ((Blk.new _ _ _ _ rfl).old _)
  have KR : Hid (Blk W0 (w.heap.size + 1) #[.slice none 0 0, .int .i64 0] 91) := by rw [hW0]; exact Lib.hid (Blk.new _ _ _ _ (by simp))
  have HS := Lib.hid (h.below B0.out)
  clear h hW0 d0 d1 d2
  go_loopw [3, 4] (fun i _ wr => ∃ k : Nat, k ≤ n.t.length ∧ i = .int .i64 k ∧ Hid (firstBad typeFlt 0 (n.t.take k) = fltOK) ∧ Hid (Below W0.heap.size W0 wr)) (fun i _ _ => n.t.length - (intOf i).toNat)
  case atStart => exact ⟨0, Nat.zero_le _, rfl, Lib.hid rfl, Lib.hid (Below.refl _ _)⟩
  case round =>
    obtain ⟨k, hk, rfl, HT, HBr⟩ := hrel
    have KNr := Lib.hid (KN.out.keep HBr.out)
    obtain ⟨c0, c1, c2, -, -, -⟩ := KNr.out.o3
    by_cases hlt : k < n.t.length
    · have hli : (k : Int) < (n.t.length : Int) := by omega
      obtain ⟨tb, tz, tu, rfl, x0, x1, x2, xt⟩ := (HS.out.below HBr.out).t.at hlt
      have hin := (HIN.out.2.2 n.t[k] (List.getElem_mem _)).2.2
      obtain ⟨A, eA⟩ : ∃ A, n.t[k] = A := ⟨_, rfl⟩
      rw [eA] at x0 x1 xt hin
      have hbb := World.block_lt_of_cell? wr _ x0
      have XT := Lib.hid xt
      have HI := Lib.hid hin
      clear xt hin
      by_cases hc : (chkT A.1 A.2.1 A.2.2).2 = 0
      · have HC := Lib.hid (chkT_zero hc)
        have HN : Hid (firstBad typeFlt 0 (n.t.take (k + 1)) = fltOK) := Lib.hid (fb_ok hlt HT.out (by rw [eA]; unfold typeFlt; rw [if_pos hc]; rfl))
        clear hc eA
        go_wp2_with fail
        refine (rcheck_any A.1 A.2.1 _ A.2.2 wr XT.out HI.out).mono ?_
        rw [HC.out]
        rintro e wz ⟨wv, rfl, hW, hb⟩
        have hW0 : WrongV wz wv [] 0 := hW
        obtain ⟨gq, gc, rfl⟩ := hW0.none
        have HB2 : Hid (Below W0.heap.size W0 (wz.alloc (.cells #[.slice gq 0 gc, .int .i64 0] 91))) := Lib.hid ((HBr.out.trans (hb.mono HBr.out.size)).trans ((below_new _).mono (Nat.le_trans HBr.out.size hb.size)))
        clear hW hW0 hb x0 x1 x2 c0 c1 c2
        go_wp2_with fail
        go_roundw
        case rel => exact ⟨k + 1, by omega, by go_num, HN, HB2⟩
        case measure => simp [intOf]; omega
      · have HR : Hid (chkN n = ((typeB, (k : Int)) :: turnW (chkT A.1 A.2.1 A.2.2), (chkT A.1 A.2.1 A.2.2).2)) := Lib.hid (by
          have ef : typeFlt k n.t[k] = ((typeB, (k : Int)) :: turnW (chkT A.1 A.2.1 A.2.2), (chkT A.1 A.2.1 A.2.2).2) := by rw [eA]; unfold typeFlt; rw [if_neg hc]
          exact chkN_t HSM.out ((fb_bad hlt HT.out (by rw [ef]; exact hc)).trans ef) hc)
        obtain ⟨E, eE⟩ : ∃ E, (chkT A.1 A.2.1 A.2.2).2 = E := ⟨_, rfl⟩
        obtain ⟨PS, eP⟩ : ∃ PS, turnW (chkT A.1 A.2.1 A.2.2) = PS := ⟨_, rfl⟩
        have hps : PS ≠ [] ∧ PS.length ≤ 1000 := by rw [← eP]; unfold turnW; rw [if_neg hc]; simp
        rw [eE] at hc
        have HE := Lib.hid eE
        have HP := Lib.hid eP
        have HPS := Lib.hid hps
        have HC0 := Lib.hid hc
        have hc' : (E == 0) = false := by simpa using hc
        rw [eE, eP] at HR
        clear eA eE eP hps hc
        go_wp2_with fail
        refine (rcheck_any A.1 A.2.1 _ A.2.2 wr XT.out HI.out).mono ?_
        rw [HE.out, HP.out]
        rintro e wy ⟨wv, rfl, hW, hb⟩
        obtain ⟨gq, gn, gc, rfl⟩ := hW.shape
        have hb2 : Below W0.heap.size W0 (wy.alloc (.cells #[.slice gq gn gc, .int .i64 E] 91)) := (HBr.out.trans (hb.mono HBr.out.size)).trans ((below_new _).mono (Nat.le_trans HBr.out.size hb.size))
        obtain ⟨WY, hWY⟩ := named (wy.alloc (.cells #[.slice gq gn gc, .int .i64 E] 91))
        rw [← hWY] at hb2
        have HB2 := Lib.hid hb2
        have KW : Hid (Blk WY wy.heap.size #[.slice gq gn gc, .int .i64 E] 91) := by rw [hWY]; exact Lib.hid (Blk.new _ _ _ _ rfl)
        have HWV : Hid (WrongV WY (.agg #[.slice gq gn gc, .int .i64 E]) PS E) := by rw [hWY]; exact Lib.hid (WrongV.below (below_new _) hW)
        have HEQ := Lib.hid hWY
        clear hW hb x0 x1 x2 c0 c1 c2 hb2 hWY
        go_wp2_with fail
        rw [← HEQ.out]
        have KR2 := Lib.hid (KR.out.keep HB2.out)
        have BW2 := Lib.hid (B0.out.trans (HB2.out.mono B0.out.size))
        refine (rwithin_any typeB k _ PS E WY HWV.out HPS.out.1 HC0.out HPS.out.2).mono ?_
        rintro e wz ⟨wv, rfl, hW, hb⟩
        obtain ⟨gq, gn, gc, rfl⟩ := hW.shape
        have hkr := KR2.out.keep hb
        have HF := Lib.hid (wrong_set hkr (fun s => by simp) (fun s => by simp) hW (.slice gq gn gc) (.int .i64 E))
        have HZ : Hid (Below w.heap.size w ((wz.setCell ⟨w.heap.size + 1, 0, none⟩ (.slice gq gn gc)).setCell ⟨w.heap.size + 1, 1, none⟩ (.int .i64 E))) := Lib.hid ((((BW2.out.trans (hb.mono BW2.out.size))).setCell (by simp only []; omega) _).setCell (by simp only []; omega) _)
        have hlt := hkr.lt
        obtain ⟨r0, r1, f0, f1⟩ := hkr.o2
        clear hkr hW hb
        go_wp2_with fail
        rw [HR.out]
        exact bodyPost_ret (v := .agg #[.slice gq gn gc, .int .i64 E]) (by simp [results, Tryz.results48, go_sem]; go_simp) rfl ⟨_, rfl, HF.out, HZ.out⟩
    · have HT1 : Hid (firstBad typeFlt 0 n.t = fltOK) := Lib.hid (by have := HT.out; rwa [List.take_of_length_le (by omega)] at this)
      have hli : ¬ (k : Int) < (n.t.length : Int) := by omega
      go_wp2_with fail
      clear c0 c1 c2 hli
      go_loopw [5, 6] (fun i _ wr => ∃ k : Nat, k ≤ n.v.length ∧ i = .int .i64 k ∧ Hid (firstBad (vertFlt n.t.length) 0 (n.v.take k) = fltOK) ∧ Hid (Below W0.heap.size W0 wr)) (fun i _ _ => n.v.length - (intOf i).toNat)
      case atStart => exact ⟨0, Nat.zero_le _, rfl, Lib.hid rfl, HBr⟩
      case round =>
        obtain ⟨k, hk, rfl, HT, HBr⟩ := hrel
        have KNr := Lib.hid (KN.out.keep HBr.out)
        obtain ⟨c0, c1, c2, -, -, -⟩ := KNr.out.o3
        by_cases hlt : k < n.v.length
        · have hli : (k : Int) < (n.v.length : Int) := by omega
          obtain ⟨vb, vo, rfl, x0, x1, x2⟩ := (HS.out.below HBr.out).v.at hlt
          have hin := HIN.out.1 n.v[k] (List.getElem_mem _)
          obtain ⟨⟨X, Y, T⟩, eA⟩ : ∃ A, n.v[k] = A := ⟨_, rfl⟩
          rw [eA] at x0 x1 x2 hin
          obtain ⟨⟨i0, i1⟩, ⟨i2, i3⟩, ⟨i4, i5⟩⟩ := hin
          simp only [] at x0 x1 x2 i0 i1 i2 i3 i4 i5
          have hbb := World.block_lt_of_cell? wr _ x0
          have HB2 : Hid (Below W0.heap.size W0 (wr.alloc (.cells #[.int .i64 X, .int .i64 Y, .int .i64 T] 70))) := Lib.hid (HBr.out.trans ((below_new _).mono HBr.out.size))
          have KN2 := Lib.hid (KN.out.keep HB2.out)
          cases hX : coordB X with
          | false =>
            have CX := Lib.hid hX
            have HR : Hid (chkN n = ([(vertB, (k : Int))], 1)) := Lib.hid (by
              have ef : vertFlt n.t.length k n.v[k] = ([(vertB, (k : Int))], 1) := by rw [eA]; unfold vertFlt; rw [if_pos hX]
              exact chkN_v HSM.out HT1.out ((fb_bad hlt HT.out (by rw [ef]; simp)).trans ef) (by simp))
            clear eA
            go_wp2_with fail
            clear x0 x1 x2 c0 c1 c2
            refine (rcoord_is X false _ CX.out).mono ?_
            rintro e w' ⟨rfl, rfl⟩
            go_wp2_with fail
            have KR2 := Lib.hid (KR.out.keep HB2.out)
            have BW2 := Lib.hid (B0.out.trans (HB2.out.mono B0.out.size))
            refine (at_is vertB k 1 _).mono ?_
            rintro e wz ⟨wv, rfl, hW, hb⟩
            obtain ⟨gq, gn, gc, rfl⟩ := hW.shape
            have hkr := KR2.out.keep hb
            have HF := Lib.hid (wrong_set hkr (fun s => by simp) (fun s => by simp) hW (.slice gq gn gc) (.int .i64 1))
            have HZ : Hid (Below w.heap.size w ((wz.setCell ⟨w.heap.size + 1, 0, none⟩ (.slice gq gn gc)).setCell ⟨w.heap.size + 1, 1, none⟩ (.int .i64 1))) := Lib.hid ((((BW2.out.trans (hb.mono BW2.out.size))).setCell (by simp only []; omega) _).setCell (by simp only []; omega) _)
            have hlt := hkr.lt
            obtain ⟨r0, r1, f0, f1⟩ := hkr.o2
            clear hkr hW hb
            go_wp2_with fail
            rw [HR.out]
            exact bodyPost_ret (v := .agg #[.slice gq gn gc, .int .i64 1]) (by simp [results, Tryz.results48, go_sem]; go_simp) rfl ⟨_, rfl, HF.out, HZ.out⟩
          | true =>
            have CX := Lib.hid hX
            cases hY : coordB Y with
            | false =>
              have CY := Lib.hid hY
              have HR : Hid (chkN n = ([(vertB, (k : Int))], 1)) := Lib.hid (by
                have ef : vertFlt n.t.length k n.v[k] = ([(vertB, (k : Int))], 1) := by rw [eA]; unfold vertFlt; rw [if_neg (by simp [hX]), if_pos hY]
                exact chkN_v HSM.out HT1.out ((fb_bad hlt HT.out (by rw [ef]; simp)).trans ef) (by simp))
              clear eA
              go_wp2_with fail
              clear x0 x1 x2 c0 c1 c2
              refine (rcoord_is X true _ CX.out).mono ?_
              rintro e w' ⟨rfl, rfl⟩
              go_wp2_with fail
              refine (rcoord_is Y false _ CY.out).mono ?_
              rintro e w' ⟨rfl, rfl⟩
              go_wp2_with fail
              have KR2 := Lib.hid (KR.out.keep HB2.out)
              have BW2 := Lib.hid (B0.out.trans (HB2.out.mono B0.out.size))
              refine (at_is vertB k 1 _).mono ?_
              rintro e wz ⟨wv, rfl, hW, hb⟩
              obtain ⟨gq, gn, gc, rfl⟩ := hW.shape
              have hkr := KR2.out.keep hb
              have HF := Lib.hid (wrong_set hkr (fun s => by simp) (fun s => by simp) hW (.slice gq gn gc) (.int .i64 1))
              have HZ : Hid (Below w.heap.size w ((wz.setCell ⟨w.heap.size + 1, 0, none⟩ (.slice gq gn gc)).setCell ⟨w.heap.size + 1, 1, none⟩ (.int .i64 1))) := Lib.hid ((((BW2.out.trans (hb.mono BW2.out.size))).setCell (by simp only []; omega) _).setCell (by simp only []; omega) _)
              have hlt := hkr.lt
              obtain ⟨r0, r1, f0, f1⟩ := hkr.o2
              clear hkr hW hb
              go_wp2_with fail
              rw [HR.out]
              exact bodyPost_ret (v := .agg #[.slice gq gn gc, .int .i64 1]) (by simp [results, Tryz.results48, go_sem]; go_simp) rfl ⟨_, rfl, HF.out, HZ.out⟩
            | true =>
              have CY := Lib.hid hY
              by_cases h0 : T < 0
              · have d0 : decide (T < 0) = true := decide_eq_true h0
                have HR : Hid (chkN n = ([(vertB, (k : Int))], 5)) := Lib.hid (by
                  have ef : vertFlt n.t.length k n.v[k] = ([(vertB, (k : Int))], 5) := by rw [eA]; unfold vertFlt; rw [if_neg (by simp [hX]), if_neg (by simp [hY]), if_pos h0]
                  exact chkN_v HSM.out HT1.out ((fb_bad hlt HT.out (by rw [ef]; simp)).trans ef) (by simp))
                clear eA
                go_wp2_with fail
                clear x0 x1 x2 c0 c1 c2
                refine (rcoord_is X true _ CX.out).mono ?_
                rintro e w' ⟨rfl, rfl⟩
                go_wp2_with fail
                refine (rcoord_is Y true _ CY.out).mono ?_
                rintro e w' ⟨rfl, rfl⟩
                go_wp2_with fail
                have KR2 := Lib.hid (KR.out.keep HB2.out)
                have BW2 := Lib.hid (B0.out.trans (HB2.out.mono B0.out.size))
                refine (at_is vertB k 5 _).mono ?_
                rintro e wz ⟨wv, rfl, hW, hb⟩
                obtain ⟨gq, gn, gc, rfl⟩ := hW.shape
                have hkr := KR2.out.keep hb
                have HF := Lib.hid (wrong_set hkr (fun s => by simp) (fun s => by simp) hW (.slice gq gn gc) (.int .i64 5))
                have HZ : Hid (Below w.heap.size w ((wz.setCell ⟨w.heap.size + 1, 0, none⟩ (.slice gq gn gc)).setCell ⟨w.heap.size + 1, 1, none⟩ (.int .i64 5))) := Lib.hid ((((BW2.out.trans (hb.mono BW2.out.size))).setCell (by simp only []; omega) _).setCell (by simp only []; omega) _)
                have hlt := hkr.lt
                obtain ⟨r0, r1, f0, f1⟩ := hkr.o2
                clear hkr hW hb
                go_wp2_with fail
                rw [HR.out]
                exact bodyPost_ret (v := .agg #[.slice gq gn gc, .int .i64 5]) (by simp [results, Tryz.results48, go_sem]; go_simp) rfl ⟨_, rfl, HF.out, HZ.out⟩
              · have d0 : decide (T < 0) = false := decide_eq_false h0
                obtain ⟨kt, rfl⟩ : ∃ kt : Nat, T = kt := ⟨T.toNat, by omega⟩
                by_cases h1 : n.t.length ≤ kt
                · have h1' : ¬ kt < n.t.length := by omega
                  have HR : Hid (chkN n = ([(vertB, (k : Int))], 5)) := Lib.hid (by
                    have ef : vertFlt n.t.length k n.v[k] = ([(vertB, (k : Int))], 5) := by rw [eA]; unfold vertFlt; rw [if_neg (by simp [hX]), if_neg (by simp [hY]), if_neg h0, if_pos (by simp only []; omega)]
                    exact chkN_v HSM.out HT1.out ((fb_bad hlt HT.out (by rw [ef]; simp)).trans ef) (by simp))
                  clear eA
                  go_wp2_with fail
                  clear x0 x1 x2 c0 c1 c2
                  refine (rcoord_is X true _ CX.out).mono ?_
                  rintro e w' ⟨rfl, rfl⟩
                  go_wp2_with fail
                  refine (rcoord_is Y true _ CY.out).mono ?_
                  rintro e w' ⟨rfl, rfl⟩
                  obtain ⟨m0, m1, m2, -, -, -⟩ := KN2.out.o3
                  go_wp2_with fail
                  clear m0 m1 m2
                  have KR2 := Lib.hid (KR.out.keep HB2.out)
                  have BW2 := Lib.hid (B0.out.trans (HB2.out.mono B0.out.size))
                  refine (at_is vertB k 5 _).mono ?_
                  rintro e wz ⟨wv, rfl, hW, hb⟩
                  obtain ⟨gq, gn, gc, rfl⟩ := hW.shape
                  have hkr := KR2.out.keep hb
                  have HF := Lib.hid (wrong_set hkr (fun s => by simp) (fun s => by simp) hW (.slice gq gn gc) (.int .i64 5))
                  have HZ : Hid (Below w.heap.size w ((wz.setCell ⟨w.heap.size + 1, 0, none⟩ (.slice gq gn gc)).setCell ⟨w.heap.size + 1, 1, none⟩ (.int .i64 5))) := Lib.hid ((((BW2.out.trans (hb.mono BW2.out.size))).setCell (by simp only []; omega) _).setCell (by simp only []; omega) _)
                  have hlt := hkr.lt
                  obtain ⟨r0, r1, f0, f1⟩ := hkr.o2
                  clear hkr hW hb
                  go_wp2_with fail
                  rw [HR.out]
                  exact bodyPost_ret (v := .agg #[.slice gq gn gc, .int .i64 5]) (by simp [results, Tryz.results48, go_sem]; go_simp) rfl ⟨_, rfl, HF.out, HZ.out⟩
                · have h1' : kt < n.t.length := by omega
                  have HN : Hid (firstBad (vertFlt n.t.length) 0 (n.v.take (k + 1)) = fltOK) := Lib.hid (fb_ok hlt HT.out (by rw [eA]; unfold vertFlt; rw [if_neg (by simp [hX]), if_neg (by simp [hY]), if_neg h0, if_neg (by simp only []; omega)]; rfl))
                  clear eA
                  go_wp2_with fail
                  clear x0 x1 x2 c0 c1 c2
                  refine (rcoord_is X true _ CX.out).mono ?_
                  rintro e w' ⟨rfl, rfl⟩
                  go_wp2_with fail
                  refine (rcoord_is Y true _ CY.out).mono ?_
                  rintro e w' ⟨rfl, rfl⟩
                  obtain ⟨m0, m1, m2, -, -, -⟩ := KN2.out.o3
                  go_wp2_with fail
                  clear m0 m1 m2
                  go_roundw
                  case rel => exact ⟨k + 1, by omega, by go_num, HN, HB2⟩
                  case measure => simp [intOf]; omega
        · have HT2 : Hid (firstBad (vertFlt n.t.length) 0 n.v = fltOK) := Lib.hid (by have := HT.out; rwa [List.take_of_length_le (by omega)] at this)
          have hli : ¬ (k : Int) < (n.v.length : Int) := by omega
          have hmk := run_makeInts (n.v.length : Int) (by omega) (by omega)
          have hkl := KNr.out.lt
          go_wp2_with fail
          clear c0 c1 c2 hli hmk hkl
          obtain ⟨WV, rfl⟩ : ∃ W, W = wr := ⟨_, rfl⟩
          have HBV := Lib.hid HBr.out
          clear HBr
          go_loopw [9, 10] (fun i _ wr => ∃ k : Nat, k ≤ n.a.length ∧ i = .int .i64 k ∧ Hid (firstBad (arcFlt n.v.length) 0 (n.a.take k) = fltOK) ∧ Hid (Blk wr (WV.heap.size) (arrC (fun v => insC (n.a.take k) v) n.v.length) 3) ∧ Hid (Blk wr (WV.heap.size + 1) (arrC (fun v => outsC (n.a.take k) v) n.v.length) 3) ∧
              Hid (Below WV.heap.size WV wr) ∧ WV.heap.size + 2 ≤ wr.heap.size) (fun i _ _ => n.a.length - (intOf i).toNat)
          case atStart =>
            refine ⟨0, Nat.zero_le _, rfl, Lib.hid rfl, Lib.hid ?_, Lib.hid ?_, Lib.hid (below_alloc2 _ _), by simp⟩
            · rw [arrC_zero]
              exact (Blk.new WV _ _ _ rfl).old _
            · rw [arrC_zero]
              exact Blk.new _ _ _ _ (by simp)
          case round =>
            obtain ⟨k, hk, rfl, HT, KI, KO, HBr, hz⟩ := hrel
            have HB0 := Lib.hid (HBV.out.trans (HBr.out.mono HBV.out.size))
            have KNr := Lib.hid (KN.out.keep HB0.out)
            obtain ⟨c0, c1, c2, -, -, -⟩ := KNr.out.o3
            by_cases hlt : k < n.a.length
            · have hli : (k : Int) < (n.a.length : Int) := by omega
              obtain ⟨ab, ao, rfl, x0, x1, x2⟩ := (HS.out.below HB0.out).a.at hlt
              have hin := HIN.out.2.1 n.a[k] (List.getElem_mem _)
              obtain ⟨⟨F, T, Q⟩, eA⟩ : ∃ A, n.a[k] = A := ⟨_, rfl⟩
              rw [eA] at x0 x1 x2 hin
              obtain ⟨⟨i0, i1⟩, ⟨i2, i3⟩, ⟨i4, i5⟩⟩ := hin
              simp only [] at x0 x1 x2 i0 i1 i2 i3 i4 i5
              have hbb := World.block_lt_of_cell? wr _ x0
              have HB2 : Hid (Below W0.heap.size W0 (wr.alloc (.cells #[.int .i64 F, .int .i64 T, .int .i64 Q] 65))) := Lib.hid (HB0.out.trans ((below_new _).mono HB0.out.size))
              have KN2 := Lib.hid (KN.out.keep HB2.out)
              by_cases hF0 : F < 0
              · have d0 : decide (F < 0) = true := decide_eq_true hF0
                have HR : Hid (chkN n = ([(arcB, (k : Int))], 5)) := Lib.hid (by
                  have ef : arcFlt n.v.length k n.a[k] = ([(arcB, (k : Int))], 5) := by rw [eA]; unfold arcFlt; rw [if_pos hF0]
                  exact chkN_a HSM.out HT1.out HT2.out ((fb_bad hlt HT.out (by rw [ef]; simp)).trans ef) (by simp))
                clear eA
                obtain ⟨m0, m1, m2, -, -, -⟩ := KN2.out.o3
                go_wp2_with fail
                clear x0 x1 x2 c0 c1 c2 m0 m1 m2
                have KR2 := Lib.hid (KR.out.keep HB2.out)
                have BW2 := Lib.hid (B0.out.trans (HB2.out.mono B0.out.size))
                refine (at_is arcB k 5 _).mono ?_
                rintro e wz ⟨wv, rfl, hW, hb⟩
                obtain ⟨gq, gn, gc, rfl⟩ := hW.shape
                have hkr := KR2.out.keep hb
                have HF := Lib.hid (wrong_set hkr (fun s => by simp) (fun s => by simp) hW (.slice gq gn gc) (.int .i64 5))
                have HZ : Hid (Below w.heap.size w ((wz.setCell ⟨w.heap.size + 1, 0, none⟩ (.slice gq gn gc)).setCell ⟨w.heap.size + 1, 1, none⟩ (.int .i64 5))) := Lib.hid ((((BW2.out.trans (hb.mono BW2.out.size))).setCell (by simp only []; omega) _).setCell (by simp only []; omega) _)
                have hlt := hkr.lt
                obtain ⟨r0, r1, f0, f1⟩ := hkr.o2
                clear hkr hW hb
                go_wp2_with fail
                rw [HR.out]
                exact bodyPost_ret (v := .agg #[.slice gq gn gc, .int .i64 5]) (by simp [results, Tryz.results48, go_sem]; go_simp) rfl ⟨_, rfl, HF.out, HZ.out⟩
              · have d0 : decide (F < 0) = false := decide_eq_false hF0
                obtain ⟨kf, rfl⟩ : ∃ kf : Nat, F = kf := ⟨F.toNat, by omega⟩
                by_cases hF1 : n.v.length ≤ kf
                · have hF1' : ¬ kf < n.v.length := by omega
                  have HR : Hid (chkN n = ([(arcB, (k : Int))], 5)) := Lib.hid (by
                    have ef : arcFlt n.v.length k n.a[k] = ([(arcB, (k : Int))], 5) := by rw [eA]; unfold arcFlt; rw [if_neg hF0, if_pos (by simp only []; omega)]
                    exact chkN_a HSM.out HT1.out HT2.out ((fb_bad hlt HT.out (by rw [ef]; simp)).trans ef) (by simp))
                  clear eA
                  obtain ⟨m0, m1, m2, -, -, -⟩ := KN2.out.o3
                  go_wp2_with fail
                  clear x0 x1 x2 c0 c1 c2 m0 m1 m2
                  have KR2 := Lib.hid (KR.out.keep HB2.out)
                  have BW2 := Lib.hid (B0.out.trans (HB2.out.mono B0.out.size))
                  refine (at_is arcB k 5 _).mono ?_
                  rintro e wz ⟨wv, rfl, hW, hb⟩
                  obtain ⟨gq, gn, gc, rfl⟩ := hW.shape
                  have hkr := KR2.out.keep hb
                  have HF := Lib.hid (wrong_set hkr (fun s => by simp) (fun s => by simp) hW (.slice gq gn gc) (.int .i64 5))
                  have HZ : Hid (Below w.heap.size w ((wz.setCell ⟨w.heap.size + 1, 0, none⟩ (.slice gq gn gc)).setCell ⟨w.heap.size + 1, 1, none⟩ (.int .i64 5))) := Lib.hid ((((BW2.out.trans (hb.mono BW2.out.size))).setCell (by simp only []; omega) _).setCell (by simp only []; omega) _)
                  have hlt := hkr.lt
                  obtain ⟨r0, r1, f0, f1⟩ := hkr.o2
                  clear hkr hW hb
                  go_wp2_with fail
                  rw [HR.out]
                  exact bodyPost_ret (v := .agg #[.slice gq gn gc, .int .i64 5]) (by simp [results, Tryz.results48, go_sem]; go_simp) rfl ⟨_, rfl, HF.out, HZ.out⟩
                · have hF1' : kf < n.v.length := by omega
                  by_cases hT0 : T < 0
                  · have d1 : decide (T < 0) = true := decide_eq_true hT0
                    have HR : Hid (chkN n = ([(arcB, (k : Int))], 5)) := Lib.hid (by
                      have ef : arcFlt n.v.length k n.a[k] = ([(arcB, (k : Int))], 5) := by rw [eA]; unfold arcFlt; rw [if_neg hF0, if_neg (by simp only []; omega), if_pos hT0]
                      exact chkN_a HSM.out HT1.out HT2.out ((fb_bad hlt HT.out (by rw [ef]; simp)).trans ef) (by simp))
                    clear eA
                    obtain ⟨m0, m1, m2, -, -, -⟩ := KN2.out.o3
                    go_wp2_with fail
                    clear x0 x1 x2 c0 c1 c2 m0 m1 m2
                    have KR2 := Lib.hid (KR.out.keep HB2.out)
                    have BW2 := Lib.hid (B0.out.trans (HB2.out.mono B0.out.size))
                    refine (at_is arcB k 5 _).mono ?_
                    rintro e wz ⟨wv, rfl, hW, hb⟩
                    obtain ⟨gq, gn, gc, rfl⟩ := hW.shape
                    have hkr := KR2.out.keep hb
                    have HF := Lib.hid (wrong_set hkr (fun s => by simp) (fun s => by simp) hW (.slice gq gn gc) (.int .i64 5))
                    have HZ : Hid (Below w.heap.size w ((wz.setCell ⟨w.heap.size + 1, 0, none⟩ (.slice gq gn gc)).setCell ⟨w.heap.size + 1, 1, none⟩ (.int .i64 5))) := Lib.hid ((((BW2.out.trans (hb.mono BW2.out.size))).setCell (by simp only []; omega) _).setCell (by simp only []; omega) _)
                    have hlt := hkr.lt
                    obtain ⟨r0, r1, f0, f1⟩ := hkr.o2
                    clear hkr hW hb
                    go_wp2_with fail
                    rw [HR.out]
                    exact bodyPost_ret (v := .agg #[.slice gq gn gc, .int .i64 5]) (by simp [results, Tryz.results48, go_sem]; go_simp) rfl ⟨_, rfl, HF.out, HZ.out⟩
                  · have d1 : decide (T < 0) = false := decide_eq_false hT0
                    obtain ⟨kt, rfl⟩ : ∃ kt : Nat, T = kt := ⟨T.toNat, by omega⟩
                    by_cases hT1 : n.v.length ≤ kt
                    · have hT1' : ¬ kt < n.v.length := by omega
                      have HR : Hid (chkN n = ([(arcB, (k : Int))], 5)) := Lib.hid (by
                        have ef : arcFlt n.v.length k n.a[k] = ([(arcB, (k : Int))], 5) := by rw [eA]; unfold arcFlt; rw [if_neg hF0, if_neg (by simp only []; omega), if_neg hT0, if_pos (by simp only []; omega)]
                        exact chkN_a HSM.out HT1.out HT2.out ((fb_bad hlt HT.out (by rw [ef]; simp)).trans ef) (by simp))
                      clear eA
                      obtain ⟨m0, m1, m2, -, -, -⟩ := KN2.out.o3
                      go_wp2_with fail
                      clear x0 x1 x2 c0 c1 c2 m0 m1 m2
                      have KR2 := Lib.hid (KR.out.keep HB2.out)
                      have BW2 := Lib.hid (B0.out.trans (HB2.out.mono B0.out.size))
                      refine (at_is arcB k 5 _).mono ?_
                      rintro e wz ⟨wv, rfl, hW, hb⟩
                      obtain ⟨gq, gn, gc, rfl⟩ := hW.shape
                      have hkr := KR2.out.keep hb
                      have HF := Lib.hid (wrong_set hkr (fun s => by simp) (fun s => by simp) hW (.slice gq gn gc) (.int .i64 5))
                      have HZ : Hid (Below w.heap.size w ((wz.setCell ⟨w.heap.size + 1, 0, none⟩ (.slice gq gn gc)).setCell ⟨w.heap.size + 1, 1, none⟩ (.int .i64 5))) := Lib.hid ((((BW2.out.trans (hb.mono BW2.out.size))).setCell (by simp only []; omega) _).setCell (by simp only []; omega) _)
                      have hlt := hkr.lt
                      obtain ⟨r0, r1, f0, f1⟩ := hkr.o2
                      clear hkr hW hb
                      go_wp2_with fail
                      rw [HR.out]
                      exact bodyPost_ret (v := .agg #[.slice gq gn gc, .int .i64 5]) (by simp [results, Tryz.results48, go_sem]; go_simp) rfl ⟨_, rfl, HF.out, HZ.out⟩
                    · have hT1' : kt < n.v.length := by omega
                      have I4 := Lib.hid (And.intro i4 i5)
                      cases hQ : wgt Q with
                      | false =>
                        have CQ := Lib.hid hQ
                        have HR : Hid (chkN n = ([(arcB, (k : Int))], 8)) := Lib.hid (by
                          have ef : arcFlt n.v.length k n.a[k] = ([(arcB, (k : Int))], 8) := by rw [eA]; unfold arcFlt; rw [if_neg hF0, if_neg (by simp only []; omega), if_neg hT0, if_neg (by simp only []; omega), if_pos hQ]
                          exact chkN_a HSM.out HT1.out HT2.out ((fb_bad hlt HT.out (by rw [ef]; simp)).trans ef) (by simp))
                        clear eA
                        obtain ⟨m0, m1, m2, -, -, -⟩ := KN2.out.o3
                        go_wp2_with fail
                        clear x0 x1 x2 c0 c1 c2 m0 m1 m2
                        refine (rweight_b Q false _ I4.out.1 I4.out.2 CQ.out).mono ?_
                        rintro e w' ⟨rfl, rfl⟩
                        go_wp2_with fail
                        have KR2 := Lib.hid (KR.out.keep HB2.out)
                        have BW2 := Lib.hid (B0.out.trans (HB2.out.mono B0.out.size))
                        refine (at_is arcB k 8 _).mono ?_
                        rintro e wz ⟨wv, rfl, hW, hb⟩
                        obtain ⟨gq, gn, gc, rfl⟩ := hW.shape
                        have hkr := KR2.out.keep hb
                        have HF := Lib.hid (wrong_set hkr (fun s => by simp) (fun s => by simp) hW (.slice gq gn gc) (.int .i64 8))
                        have HZ : Hid (Below w.heap.size w ((wz.setCell ⟨w.heap.size + 1, 0, none⟩ (.slice gq gn gc)).setCell ⟨w.heap.size + 1, 1, none⟩ (.int .i64 8))) := Lib.hid ((((BW2.out.trans (hb.mono BW2.out.size))).setCell (by simp only []; omega) _).setCell (by simp only []; omega) _)
                        have hlt := hkr.lt
                        obtain ⟨r0, r1, f0, f1⟩ := hkr.o2
                        clear hkr hW hb
                        go_wp2_with fail
                        rw [HR.out]
                        exact bodyPost_ret (v := .agg #[.slice gq gn gc, .int .i64 8]) (by simp [results, Tryz.results48, go_sem]; go_simp) rfl ⟨_, rfl, HF.out, HZ.out⟩
                      | true =>
                        have CQ := Lib.hid hQ
                        have HN : Hid (firstBad (arcFlt n.v.length) 0 (n.a.take (k + 1)) = fltOK) := Lib.hid (fb_ok hlt HT.out (by rw [eA]; unfold arcFlt; rw [if_neg hF0, if_neg (by simp only []; omega), if_neg hT0, if_neg (by simp only []; omega), if_neg (by simp [hQ])]; rfl))
                        have HOS : Hid (∀ j : Nat, outsC (n.a.take (k + 1)) j = outsC (n.a.take k) j + (if (kf : Int) = j then 1 else 0)) := Lib.hid (fun j => by rw [outsC_snoc hlt, eA])
                        have HIS : Hid (∀ j : Nat, insC (n.a.take (k + 1)) j = insC (n.a.take k) j + (if (kt : Int) = j then 1 else 0)) := Lib.hid (fun j => by rw [insC_snoc hlt, eA])
                        have ob := outsC_bd (n.a.take k) kf
                        have ib := insC_bd (n.a.take k) kt
                        have hlk : (n.a.take k).length ≤ 16384 := by rw [List.length_take]; omega
                        obtain ⟨CO, eCO⟩ : ∃ CO, outsC (n.a.take k) kf = CO := ⟨_, rfl⟩
                        obtain ⟨CI, eCI⟩ : ∃ CI, insC (n.a.take k) kt = CI := ⟨_, rfl⟩
                        rw [eCO] at ob
                        rw [eCI] at ib
                        obtain ⟨o0, o1⟩ := ob
                        obtain ⟨i0', i1'⟩ := ib
                        have o2 : CO ≤ 16384 := by omega
                        have i2' : CI ≤ 16384 := by omega
                        have ECO := Lib.hid eCO
                        have ECI := Lib.hid eCI
                        obtain ⟨m0, m1, m2, -, -, -⟩ := KN2.out.o3
                        clear eA eCO eCI o1 i1' hlk
                        go_wp2_with fail
                        refine (rweight_b Q true _ I4.out.1 I4.out.2 CQ.out).mono ?_
                        rintro e w' ⟨rfl, rfl⟩
                        clear x0 x1 x2 c0 c1 c2 m0 m1 m2
                        obtain ⟨W1, hW1⟩ := named (wr.alloc (.cells #[.int .i64 kf, .int .i64 kt, .int .i64 Q] 65))
                        have KA1 : Hid (Blk W1 wr.heap.size #[.int .i64 kf, .int .i64 kt, .int .i64 Q] 65) := by rw [hW1]; exact Lib.hid (Blk.new _ _ _ _ rfl)
                        have KO1 : Hid (Blk W1 (WV.heap.size + 1) (arrC (fun v => outsC (n.a.take k) v) n.v.length) 3) := by rw [hW1]; exact Lib.hid (KO.out.old _)
                        have KI1 : Hid (Blk W1 (WV.heap.size) (arrC (fun v => insC (n.a.take k) v) n.v.length) 3) := by rw [hW1]; exact Lib.hid (KI.out.old _)
                        have HBW : Hid (Below WV.heap.size WV W1) := by rw [hW1]; exact Lib.hid (HBr.out.trans ((below_new _).mono HBr.out.size))
                        have hz1 : WV.heap.size + 2 ≤ W1.heap.size := by rw [hW1]; simp; omega
                        rw [← hW1]
                        have HW1 := Lib.hid hW1
                        clear hW1 HB2 KN2
                        have oc : W1.cell? ⟨WV.heap.size + 1, kf, none⟩ = some (.int .i64 CO) := (KO1.out.cell kf (arrC_at _ hF1')).trans (by rw [ECO.out])
                        have ofz := KO1.out.free kf
                        obtain ⟨a0, a1, a2, -, -, -⟩ := KA1.out.o3
                        go_upto_region 32 with (fail)
                        clear oc ofz a0 a1 a2
                        obtain ⟨W2, hW2⟩ := named (W1.setCell ⟨WV.heap.size + 1, kf, none⟩ (.int .i64 (CO + 1)))
                        rw [← hW2]
                        have KA2 : Hid (Blk W2 wr.heap.size #[.int .i64 kf, .int .i64 kt, .int .i64 Q] 65) := by rw [hW2]; exact Lib.hid (KA1.out.other _ _ (by omega))
                        have KO2 : Hid (Blk W2 (WV.heap.size + 1) (arrC (fun v => outsC (n.a.take (k + 1)) v) n.v.length) 3) := by
                          rw [hW2, ← ECO.out]
                          have := KO1.out.set kf (.int .i64 (outsC (n.a.take k) kf + 1))
                          rw [arrC_set (g := fun v => outsC (n.a.take (k + 1)) v) hF1' (by rw [HOS.out kf, if_pos rfl]) (fun j hj => by rw [HOS.out j, if_neg (by omega), Int.add_zero])] at this
                          exact Lib.hid this
                        have KI2 : Hid (Blk W2 (WV.heap.size) (arrC (fun v => insC (n.a.take k) v) n.v.length) 3) := by rw [hW2]; exact Lib.hid (KI1.out.other _ _ (by omega))
                        have HBW2 : Hid (Below WV.heap.size WV W2) := by rw [hW2]; exact Lib.hid (HBW.out.setCell (by simp only []; omega) _)
                        have hz2 : WV.heap.size + 2 ≤ W2.heap.size := by rw [hW2]; simpa using hz1
                        have HW2 := Lib.hid hW2
                        clear hW2 KA1 KO1 KI1 HBW
                        have ic : W2.cell? ⟨WV.heap.size, kt, none⟩ = some (.int .i64 CI) := (KI2.out.cell kt (arrC_at _ hT1')).trans (by rw [ECI.out])
                        have ifz := KI2.out.free kt
                        obtain ⟨a0, a1, a2, -, -, -⟩ := KA2.out.o3
                        go_wp2_with fail
                        go_roundw
                        case rel =>
                          refine ⟨k + 1, by omega, by go_num, HN, Lib.hid ?_, Lib.hid (KO2.out.other _ _ (by omega)), Lib.hid (HBW2.out.setCell (by simp only []; omega) _), by simpa using hz2⟩
                          rw [← ECI.out]
                          have := KI2.out.set kt (.int .i64 (insC (n.a.take k) kt + 1))
                          rw [arrC_set (g := fun v => insC (n.a.take (k + 1)) v) hT1' (by rw [HIS.out kt, if_pos rfl]) (fun j hj => by rw [HIS.out j, if_neg (by omega), Int.add_zero])] at this
                          exact this
                        case measure => simp [intOf]; omega
            · have HT3 : Hid (firstBad (arcFlt n.v.length) 0 n.a = fltOK) := Lib.hid (by have := HT.out; rwa [List.take_of_length_le (by omega)] at this)
              have hli : ¬ (k : Int) < (n.a.length : Int) := by omega
              obtain rfl : k = n.a.length := by omega
              have KI' : Hid (Blk wr (WV.heap.size) (arrC (fun v => insC n.a v) n.v.length) 3) := Lib.hid (by have := KI.out; rwa [List.take_length] at this)
              have KO' : Hid (Blk wr (WV.heap.size + 1) (arrC (fun v => outsC n.a v) n.v.length) 3) := Lib.hid (by have := KO.out; rwa [List.take_length] at this)
              clear KI KO
              go_wp2_with fail
              clear c0 c1 c2 hli
              obtain ⟨WE, rfl⟩ : ∃ W, W = wr := ⟨_, rfl⟩
              have HBE := Lib.hid HB0.out
              go_loopw [11, 12] (fun i _ wr => ∃ k : Nat, k ≤ n.v.length ∧ i = .int .i64 k ∧ Hid (firstBad (degFlt n) 0 (n.v.take k) = fltOK) ∧ Hid (Below WE.heap.size WE wr)) (fun i _ _ => n.v.length - (intOf i).toNat)
              case atStart => exact ⟨0, Nat.zero_le _, rfl, Lib.hid rfl, Lib.hid (Below.refl _ _)⟩
              case round =>
                obtain ⟨k, hk, rfl, HT, HBr⟩ := hrel
                have HB1 := Lib.hid (HBE.out.trans (HBr.out.mono HBE.out.size))
                have KNr := Lib.hid (KN.out.keep HB1.out)
                obtain ⟨c0, c1, c2, -, -, -⟩ := KNr.out.o3
                by_cases hlt : k < n.v.length
                · have hli : (k : Int) < (n.v.length : Int) := by omega
                  obtain ⟨vb, vo, rfl, -, -, x2⟩ := (HS.out.below HB1.out).v.at hlt
                  have hvt := (vertFlt_ok (firstBad_each (vertFlt n.t.length) 0 n.v (by rw [HT2.out]; rfl) k hlt)).2.2
                  obtain ⟨kt, ekt⟩ : ∃ kt : Nat, n.v[k].2.2 = kt := ⟨n.v[k].2.2.toNat, by omega⟩
                  rw [ekt] at x2 hvt
                  have hkt : kt < n.t.length := by omega
                  have hti : (kt : Int) < (n.t.length : Int) := by omega
                  obtain ⟨tb, tz, tu, rfl, y0, y1, y2, yt⟩ := (HS.out.below HB1.out).t.at hkt
                  obtain ⟨A, eA⟩ : ∃ A, n.t[kt] = A := ⟨_, rfl⟩
                  rw [eA] at y0 y1 yt
                  obtain ⟨uq, uc, rfl⟩ := yt.shape
                  clear yt
                  have HTB : Hid (n.tab n.v[k].2.2 = A) := Lib.hid (by rw [ekt, NetGood.tab_at kt hkt, eA])
                  have hb1 := World.block_lt_of_cell? wr _ x2
                  have hb2 := World.block_lt_of_cell? wr _ y0
                  have X2 := Lib.hid x2
                  have Y0 := Lib.hid y0
                  have Y1 := Lib.hid y1
                  have Y2 := Lib.hid y2
                  clear x2 y0 y1 y2 eA ekt hvt
                  go_wp2_with fail
                  clear c0 c1 c2
                  have hGS : Grows (fun w' => Below wr.heap.size wr w') := Grows.below wr
                  refine' wp_thenL _ 11 (fun w' => Below wr.heap.size wr w') [[], [0], [], [2], [], [3, 4], [5], [6], [1, 7], [8], []] (Fact.lit _ :: Fact.lit _ :: Fact.lit _ :: Fact.lit _ :: Fact.lit _ :: Fact.lit _ :: Fact.lit _ :: Fact.lit _ :: Fact.lit _ :: Fact.lit _ :: Fact.fresh _ _ :: []) (by kernel_rfl) rfl (by kernel_rfl) (Below.refl _ _).drew ?seqt
                  case' seqt => skip
                  iterate 10 ((first | (apply grow_skip; (case hf => rfl); (case hw => rfl)) | (apply grow_lit; (case hf => rfl); (case hw => rfl); (case hrun => (intro w' hS H; clear H; (obtain ⟨c0, c1, c2, -, -, -⟩ := (KNr.out.keep hS).o3); (have x2 := keep hS X2.out); (have y0 := keep hS Y0.out); (have y1 := keep hS Y1.out); (have y2 := keep hS Y2.out); clear hS; go_simp; first | done | exact rfl)))); (case hc => (simp only [Act.put, List.setIfInBounds_toArray, List.set_cons_zero, List.set_cons_succ]; first | done | exact rfl)); (try (case hj => rfl)))
                  (refine' grow_fresh (p := PtrRTab wr) (hp := fun v w w' h hb => h.below hb) hGS rfl ?wtf10 ?runf10 ?putf10 ?nextf10; (case wtf10 => rfl); (case runf10 => (intro w' hS H; clear H; refine ⟨.pointer (some ⟨w'.heap.size, 0, none⟩), w'.alloc (.cells #[.int .i64 0, .int .i64 0, .slice none 0 0] 68), ?_, ⟨w'.heap.size, rfl, hS.size, Blk.new _ _ _ _ rfl⟩, ⟨w'.heap.size, rfl, Nat.le_refl _, by simp⟩, below_new _⟩; (clear hS; go_simp))); (case putf10 => (intro v; simp only [Act.put, List.setIfInBounds_toArray, List.set_cons_zero, List.set_cons_succ]; first | done | exact rfl)); (case' nextf10 => intro v10))
                  intro w9 hb hk'
                  have h10 : PtrRTab wr v10 w9 := hk' 10 (by decide)
                  obtain ⟨b, rfl, hbb, kb⟩ := h10
                  have hzb := kb.lt
                  obtain ⟨s0, s1, s2, f0, f1, f2⟩ := kb.o3
                  refine wpAny_ready (rs := [11]) (by kernel_rfl) (by simp) (AllReady.cons rfl (fun K hK => ?_) AllReady.nil)
                  go_simp
                  refine hK _ _ ?_
                  clear hK K
                  refine wpAny_done (by kernel_rfl) ?_ _
                  clear s0 s1 s2 f0 f1 f2 hk'
                  have hK9 := ((kb.set 0 (.int .i64 A.1)).set 1 (.int .i64 A.2.1)).set 2 (.slice uq A.2.2.length uc)
                  have hB9 : Below WE.heap.size WE (((w9.setCell ⟨b, 0, none⟩ (.int .i64 A.1)).setCell ⟨b, 1, none⟩ (.int .i64 A.2.1)).setCell ⟨b, 2, none⟩ (.slice uq A.2.2.length uc)) := by
                    have hz := HBr.out.size
                    iterate 3 (refine Below.setCell ?_ (by simp only []; omega) _)
                    exact HBr.out.trans (hb.mono HBr.out.size)
                  obtain ⟨W9, hW9⟩ := named (((w9.setCell ⟨b, 0, none⟩ (.int .i64 A.1)).setCell ⟨b, 1, none⟩ (.int .i64 A.2.1)).setCell ⟨b, 2, none⟩ (.slice uq A.2.2.length uc))
                  rw [← hW9] at hK9 hB9 ⊢
                  have KT : Hid (Blk W9 b #[.int .i64 A.1, .int .i64 A.2.1, .slice uq A.2.2.length uc] 68) := Lib.hid (by simpa using hK9)
                  have HBN := Lib.hid hB9
                  have HB9 := Lib.hid (HBE.out.trans (hB9.mono HBE.out.size))
                  clear hK9 hB9 hW9 hb kb hbb hzb hGS
                  obtain ⟨CI, eCI⟩ : ∃ CI, insC n.a k = CI := ⟨_, rfl⟩
                  obtain ⟨CO, eCO⟩ : ∃ CO, outsC n.a k = CO := ⟨_, rfl⟩
                  have IC : Hid (W9.cell? ⟨WV.heap.size, k, none⟩ = some (.int .i64 CI)) := Lib.hid (((KI'.out.keep HBN.out).cell k (arrC_at _ hlt)).trans (by rw [eCI]))
                  have OC : Hid (W9.cell? ⟨WV.heap.size + 1, k, none⟩ = some (.int .i64 CO)) := Lib.hid (((KO'.out.keep HBN.out).cell k (arrC_at _ hlt)).trans (by rw [eCO]))
                  have ic := IC.out
                  have oc := OC.out
                  have ECI := Lib.hid eCI
                  have ECO := Lib.hid eCO
                  clear eCI eCO
                  by_cases g1 : 16 < CI
                  · have d1 : decide (16 < CI) = true := decide_eq_true g1
                    have HR : Hid (chkN n = ([(vertB, (k : Int))], 4)) := Lib.hid (by
                      have ef : degFlt n k n.v[k] = ([(vertB, (k : Int))], 4) := by unfold degFlt; rw [HTB.out]; rw [ECI.out, if_pos g1]
                      exact (chkN_d HSM.out HT1.out HT2.out HT3.out rfl).trans ((fb_bad hlt HT.out (by rw [ef]; simp)).trans ef))
                    go_wp2_with fail
                    clear ic oc
                    have KR2 := Lib.hid (KR.out.keep HB9.out)
                    have BW2 := Lib.hid (B0.out.trans (HB9.out.mono B0.out.size))
                    refine (at_is vertB k 4 _).mono ?_
                    rintro e wz ⟨wv, rfl, hW, hb⟩
                    obtain ⟨gq, gn, gc, rfl⟩ := hW.shape
                    have hkr := KR2.out.keep hb
                    have HF := Lib.hid (wrong_set hkr (fun s => by simp) (fun s => by simp) hW (.slice gq gn gc) (.int .i64 4))
                    have HZ : Hid (Below w.heap.size w ((wz.setCell ⟨w.heap.size + 1, 0, none⟩ (.slice gq gn gc)).setCell ⟨w.heap.size + 1, 1, none⟩ (.int .i64 4))) := Lib.hid ((((BW2.out.trans (hb.mono BW2.out.size))).setCell (by simp only []; omega) _).setCell (by simp only []; omega) _)
                    have hlt := hkr.lt
                    obtain ⟨r0, r1, f0, f1⟩ := hkr.o2
                    clear hkr hW hb
                    go_wp2_with fail
                    rw [HR.out]
                    exact bodyPost_ret (v := .agg #[.slice gq gn gc, .int .i64 4]) (by simp [results, Tryz.results48, go_sem]; go_simp) rfl ⟨_, rfl, HF.out, HZ.out⟩
                  · have d1 : decide (16 < CI) = false := decide_eq_false g1
                    by_cases g2 : 16 < CO
                    · have d2 : decide (16 < CO) = true := decide_eq_true g2
                      have HR : Hid (chkN n = ([(vertB, (k : Int))], 4)) := Lib.hid (by
                        have ef : degFlt n k n.v[k] = ([(vertB, (k : Int))], 4) := by unfold degFlt; rw [HTB.out]; rw [ECI.out, if_neg (by omega), ECO.out, if_pos g2]
                        exact (chkN_d HSM.out HT1.out HT2.out HT3.out rfl).trans ((fb_bad hlt HT.out (by rw [ef]; simp)).trans ef))
                      go_wp2_with fail
                      clear ic oc
                      have KR2 := Lib.hid (KR.out.keep HB9.out)
                      have BW2 := Lib.hid (B0.out.trans (HB9.out.mono B0.out.size))
                      refine (at_is vertB k 4 _).mono ?_
                      rintro e wz ⟨wv, rfl, hW, hb⟩
                      obtain ⟨gq, gn, gc, rfl⟩ := hW.shape
                      have hkr := KR2.out.keep hb
                      have HF := Lib.hid (wrong_set hkr (fun s => by simp) (fun s => by simp) hW (.slice gq gn gc) (.int .i64 4))
                      have HZ : Hid (Below w.heap.size w ((wz.setCell ⟨w.heap.size + 1, 0, none⟩ (.slice gq gn gc)).setCell ⟨w.heap.size + 1, 1, none⟩ (.int .i64 4))) := Lib.hid ((((BW2.out.trans (hb.mono BW2.out.size))).setCell (by simp only []; omega) _).setCell (by simp only []; omega) _)
                      have hlt := hkr.lt
                      obtain ⟨r0, r1, f0, f1⟩ := hkr.o2
                      clear hkr hW hb
                      go_wp2_with fail
                      rw [HR.out]
                      exact bodyPost_ret (v := .agg #[.slice gq gn gc, .int .i64 4]) (by simp [results, Tryz.results48, go_sem]; go_simp) rfl ⟨_, rfl, HF.out, HZ.out⟩
                    · have d2 : decide (16 < CO) = false := decide_eq_false g2
                      go_wp2_with fail
                      clear ic oc
                      by_cases g3 : CI = A.1
                      · have e3 : (CI == A.1) = true := by simpa using g3
                        by_cases g4 : CO = A.2.1
                        · have e4 : (CO == A.2.1) = true := by simpa using g4
                          have HN : Hid (firstBad (degFlt n) 0 (n.v.take (k + 1)) = fltOK) := Lib.hid (fb_ok hlt HT.out (by unfold degFlt; rw [HTB.out, ECI.out, ECO.out, if_neg (by omega), if_neg (by omega), if_neg (by simpa using g3), if_neg (by simpa using g4)]; rfl))
                          have KT2 : Hid (Blk W9 b #[.int .i64 CI, .int .i64 CO, .slice uq A.2.2.length uc] 68) := Lib.hid (by rw [g3, g4]; exact KT.out)
                          clear g3 g4 e3 e4 KT
                          have KT := KT2
                          clear KT2
                          have hGS : Grows (fun w' => Below W9.heap.size W9 w') := Grows.below W9
                          refine' wp_growL _ (fun w' => Below W9.heap.size W9 w') [[], [], [0, 1], [2], [], [4], [3, 5], [6], [7], [7], [7, 8, 9], [7, 10], [7], [7, 12], [7, 11, 13], [7, 14]] (Fact.lit _ :: Fact.lit _ :: Fact.lit _ :: Fact.lit _ :: Fact.lit _ :: Fact.lit _ :: Fact.lit _ :: Fact.lit _ :: Fact.lit _ :: Fact.lit _ :: Fact.lit _ :: Fact.lit _ :: Fact.lit _ :: Fact.lit _ :: Fact.lit _ :: Fact.lit _ :: []) (by kernel_rfl) rfl (by kernel_rfl) (Below.refl _ _).drew ?seqda
                          case' seqda => skip
                          iterate 16 ((first | (apply grow_skip; (case hf => rfl); (case hw => rfl)) | (apply grow_lit; (case hf => rfl); (case hw => rfl); (case hrun => (intro w' hS H; clear H; (obtain ⟨q0, q1, q2, -, -, -⟩ := (KT.out.keep hS).o3); (have ic := keep hS IC.out); (have oc := keep hS OC.out); clear hS; go_simp; first | done | exact rfl)))); (case hc => (simp only [Act.put, List.setIfInBounds_toArray, List.set_cons_zero, List.set_cons_succ]; first | done | exact rfl)); (try (case hj => rfl)))
                          intro w10 hb _
                          have HBN2 := Lib.hid (HBN.out.trans (hb.mono HBN.out.size))
                          have HB9' := Lib.hid (HB9.out.trans (hb.mono HB9.out.size))
                          clear hb hGS HB9
                          have HB9 := HB9'
                          clear HB9'
                          go_wp2_with fail
                          go_roundw
                          case rel => exact ⟨k + 1, by omega, by go_num, HN, HBN2⟩
                          case measure => simp [intOf]; omega
                        · have e4 : (CO == A.2.1) = false := by simpa using g4
                          have G3 := Lib.hid g3
                          have KT2 : Hid (Blk W9 b #[.int .i64 CI, .int .i64 A.2.1, .slice uq A.2.2.length uc] 68) := Lib.hid (by rw [g3]; exact KT.out)
                          clear g3 e3 KT
                          have KT := KT2
                          clear KT2
                          have HR : Hid (chkN n = ([(vertB, (k : Int))], 9)) := Lib.hid (by
                            have ef : degFlt n k n.v[k] = ([(vertB, (k : Int))], 9) := by unfold degFlt; rw [HTB.out]; rw [ECI.out, if_neg (by omega), ECO.out, if_neg (by omega), if_neg (by simpa using G3.out), if_pos g4]
                            exact (chkN_d HSM.out HT1.out HT2.out HT3.out rfl).trans ((fb_bad hlt HT.out (by rw [ef]; simp)).trans ef))
                          have hGS : Grows (fun w' => Below W9.heap.size W9 w') := Grows.below W9
                          refine' wp_growL _ (fun w' => Below W9.heap.size W9 w') [[], [], [0, 1], [2], [], [4], [3, 5], [6], [7], [7], [7, 8, 9], [7, 10], [7], [7, 12], [7, 11, 13], [7, 14]] (Fact.lit _ :: Fact.lit _ :: Fact.lit _ :: Fact.lit _ :: Fact.lit _ :: Fact.lit _ :: Fact.lit _ :: Fact.lit _ :: Fact.lit _ :: Fact.lit _ :: Fact.lit _ :: Fact.lit _ :: Fact.lit _ :: Fact.lit _ :: Fact.lit _ :: Fact.lit _ :: []) (by kernel_rfl) rfl (by kernel_rfl) (Below.refl _ _).drew ?seqdb
                          case' seqdb => skip
                          iterate 16 ((first | (apply grow_skip; (case hf => rfl); (case hw => rfl)) | (apply grow_lit; (case hf => rfl); (case hw => rfl); (case hrun => (intro w' hS H; clear H; (obtain ⟨q0, q1, q2, -, -, -⟩ := (KT.out.keep hS).o3); (have ic := keep hS IC.out); (have oc := keep hS OC.out); clear hS; go_simp; first | done | exact rfl)))); (case hc => (simp only [Act.put, List.setIfInBounds_toArray, List.set_cons_zero, List.set_cons_succ]; first | done | exact rfl)); (try (case hj => rfl)))
                          intro w10 hb _
                          have HBN2 := Lib.hid (HBN.out.trans (hb.mono HBN.out.size))
                          have HB9' := Lib.hid (HB9.out.trans (hb.mono HB9.out.size))
                          clear hb hGS HB9
                          have HB9 := HB9'
                          clear HB9'
                          go_wp2_with fail
                          have KR2 := Lib.hid (KR.out.keep HB9.out)
                          have BW2 := Lib.hid (B0.out.trans (HB9.out.mono B0.out.size))
                          refine (at_is vertB k 9 _).mono ?_
                          rintro e wz ⟨wv, rfl, hW, hb⟩
                          obtain ⟨gq, gn, gc, rfl⟩ := hW.shape
                          have hkr := KR2.out.keep hb
                          have HF := Lib.hid (wrong_set hkr (fun s => by simp) (fun s => by simp) hW (.slice gq gn gc) (.int .i64 9))
                          have HZ : Hid (Below w.heap.size w ((wz.setCell ⟨w.heap.size + 1, 0, none⟩ (.slice gq gn gc)).setCell ⟨w.heap.size + 1, 1, none⟩ (.int .i64 9))) := Lib.hid ((((BW2.out.trans (hb.mono BW2.out.size))).setCell (by simp only []; omega) _).setCell (by simp only []; omega) _)
                          have hlt := hkr.lt
                          obtain ⟨r0, r1, f0, f1⟩ := hkr.o2
                          clear hkr hW hb
                          go_wp2_with fail
                          rw [HR.out]
                          exact bodyPost_ret (v := .agg #[.slice gq gn gc, .int .i64 9]) (by simp [results, Tryz.results48, go_sem]; go_simp) rfl ⟨_, rfl, HF.out, HZ.out⟩
                      · have e3 : (CI == A.1) = false := by simpa using g3
                        have e5 : (CI != A.1) = true := by simpa using g3
                        have HR : Hid (chkN n = ([(vertB, (k : Int))], 9)) := Lib.hid (by
                          have ef : degFlt n k n.v[k] = ([(vertB, (k : Int))], 9) := by unfold degFlt; rw [HTB.out]; rw [ECI.out, if_neg (by omega), ECO.out, if_neg (by omega), if_pos g3]
                          exact (chkN_d HSM.out HT1.out HT2.out HT3.out rfl).trans ((fb_bad hlt HT.out (by rw [ef]; simp)).trans ef))
                        have hGS : Grows (fun w' => Below W9.heap.size W9 w') := Grows.below W9
                        refine' wp_growL _ (fun w' => Below W9.heap.size W9 w') [[], [], [0, 1], [2], [], [4], [3, 5], [6], [7], [7], [7, 8, 9], [7, 10], [7], [7, 12], [7, 11, 13], [7, 14]] (Fact.lit _ :: Fact.lit _ :: Fact.lit _ :: Fact.lit _ :: Fact.lit _ :: Fact.lit _ :: Fact.lit _ :: Fact.lit _ :: Fact.lit _ :: Fact.lit _ :: Fact.lit _ :: Fact.lit _ :: Fact.lit _ :: Fact.lit _ :: Fact.lit _ :: Fact.lit _ :: []) (by kernel_rfl) rfl (by kernel_rfl) (Below.refl _ _).drew ?seqdc
                        case' seqdc => skip
                        iterate 16 ((first | (apply grow_skip; (case hf => rfl); (case hw => rfl)) | (apply grow_lit; (case hf => rfl); (case hw => rfl); (case hrun => (intro w' hS H; clear H; (obtain ⟨q0, q1, q2, -, -, -⟩ := (KT.out.keep hS).o3); (have ic := keep hS IC.out); (have oc := keep hS OC.out); clear hS; go_simp; first | done | exact rfl)))); (case hc => (simp only [Act.put, List.setIfInBounds_toArray, List.set_cons_zero, List.set_cons_succ]; first | done | exact rfl)); (try (case hj => rfl)))
                        intro w10 hb _
                        have HBN2 := Lib.hid (HBN.out.trans (hb.mono HBN.out.size))
                        have HB9' := Lib.hid (HB9.out.trans (hb.mono HB9.out.size))
                        clear hb hGS HB9
                        have HB9 := HB9'
                        clear HB9'
                        go_wp2_with fail
                        have KR2 := Lib.hid (KR.out.keep HB9.out)
                        have BW2 := Lib.hid (B0.out.trans (HB9.out.mono B0.out.size))
                        refine (at_is vertB k 9 _).mono ?_
                        rintro e wz ⟨wv, rfl, hW, hb⟩
                        obtain ⟨gq, gn, gc, rfl⟩ := hW.shape
                        have hkr := KR2.out.keep hb
                        have HF := Lib.hid (wrong_set hkr (fun s => by simp) (fun s => by simp) hW (.slice gq gn gc) (.int .i64 9))
                        have HZ : Hid (Below w.heap.size w ((wz.setCell ⟨w.heap.size + 1, 0, none⟩ (.slice gq gn gc)).setCell ⟨w.heap.size + 1, 1, none⟩ (.int .i64 9))) := Lib.hid ((((BW2.out.trans (hb.mono BW2.out.size))).setCell (by simp only []; omega) _).setCell (by simp only []; omega) _)
                        have hlt := hkr.lt
                        obtain ⟨r0, r1, f0, f1⟩ := hkr.o2
                        clear hkr hW hb
                        go_wp2_with fail
                        rw [HR.out]
                        exact bodyPost_ret (v := .agg #[.slice gq gn gc, .int .i64 9]) (by simp [results, Tryz.results48, go_sem]; go_simp) rfl ⟨_, rfl, HF.out, HZ.out⟩
                · have HR : Hid (chkN n = fltOK) := Lib.hid (chkN_d HSM.out HT1.out HT2.out HT3.out (by have := HT.out; rwa [List.take_of_length_le (by omega)] at this))
                  have hli : ¬ (k : Int) < (n.v.length : Int) := by omega
                  have hkr := KR.out.keep HB1.out
                  have HZ : Hid (Below w.heap.size w ((wr.setCell ⟨w.heap.size + 1, 0, none⟩ (.slice none 0 0)).setCell ⟨w.heap.size + 1, 1, none⟩ (.int .i64 0))) := Lib.hid (((B0.out.trans (HB1.out.mono B0.out.size)).setCell (by simp only []; omega) _).setCell (by simp only []; omega) _)
                  have hlt' := hkr.lt
                  obtain ⟨r0, r1, f0, f1⟩ := hkr.o2
                  clear hkr
                  go_wp2_with fail
                  rw [HR.out]
                  exact bodyPost_ret (v := .agg #[.slice none 0 0, .int .i64 0]) (by simp [results, Tryz.results48, go_sem]; go_simp) rfl ⟨_, rfl, ⟨_, rfl, Or.inl ⟨rfl, rfl⟩⟩, HZ.out⟩

/-- What the document's Check tells of any net. -/
theorem rchecknet_any (n : NetD) (vq aq tq : Option Addr) (vc ac tc : Nat) (w : World) (h : NetS w n vq aq tq vc ac tc) (hin : InNet n) : Calls Tryz.prog 48 #[netVal n vq aq tq vc ac tc] w (WPost (chkN n).1 (chkN n).2 w) := by
  by_cases h0 : 4096 < n.v.length
  · exact rchk_long0 n vq aq tq vc ac tc w h0
  by_cases h1 : 16384 < n.a.length
  · exact rchk_long1 n vq aq tq vc ac tc w h0 h1
  by_cases h2 : 256 < n.t.length
  · exact rchk_long2 n vq aq tq vc ac tc w h0 h1 h2
  · exact rchk_main n vq aq tq vc ac tc w h ⟨by omega, by omega, by omega⟩ hin

end Go.Proofs.YtgihaakgadmidaaGreat
