/-
  The document's nets: what is wrong with one first.
-/
import Derived.Test.YtbdompngabokgaaDoorA1
import Derived.Test.YtbdompngabokgaaDoorRNetA
import Derived.Test.YtbdompngabokgaaDoorA2
import Derived.Test.YtbdompngabokgaaDoorGrow
import Derived.Deep.Cut
namespace Go.Proofs.YtbdompngabokgaaDoor
open Go.RowKit

/-- The document's own At. -/
theorem at_is (p : ByteArray) (n e : Int) (w : World) : Calls Tryd.prog 34 #[.string p, .int .i64 n, .int .i64 e] w (WPost [(p, n)] e w) := by
  refine (at_any p n e w).mono ?_
  rintro ev w' ⟨rfl, rfl⟩
  exact ⟨_, rfl, atWorld_wrong p n e w, atWorld_below p n e w⟩
/-- A Wrong stays where a block without texts is written. -/
theorem wrong_set {w : World} {b : Nat} {x0 x1 : Value} {t : TypeId} (hk : Blk w b #[x0, x1] t) (h0 : ∀ s, x0 ≠ .string s) (h1 : ∀ s, x1 ≠ .string s) {v : Value} {ps : List (ByteArray × Int)} {e : Int} (h : WrongV w v ps e) (y0 y1 : Value) :
    WrongV ((w.setCell ⟨b, 0, none⟩ y0).setCell ⟨b, 1, none⟩ y1) v ps e :=
  h.only (((Only.refl [b] w).setCell 0 y0 (by simp)).setCell 1 y1 (by simp)) (NoStr.cons hk (by intro v hv s; simp at hv; rcases hv with rfl | rfl; exact h0 s; exact h1 s) (NoStr.nil w))
theorem rcoord_is (x : Int) (b : Bool) (w : World) (h : coordB x = b) : Calls Tryd.prog 45 #[.int .i64 x] w fun e w' => e = .returned (.bool b) ∧ w = w' := by
  unfold coordB at h
  by_cases h0 : -1048576 ≤ x
  · by_cases h1 : x ≤ 1048576
    · obtain rfl : b = true := by rw [← h]; simp [h0, h1]
      clear h
      have d0 : decide (-1048576 ≤ x) = true := by simpa using h0
      go_enter Tryd.func45, Tryd.ntmps45
      go_wp2
      go_ret
      exact ⟨rfl, rfl⟩
    · obtain rfl : b = false := by rw [← h]; simp; omega
      clear h
      have d0 : decide (-1048576 ≤ x) = true := by simpa using h0
      have d1 : decide (x ≤ 1048576) = false := by simpa using h1
      go_enter Tryd.func45, Tryd.ntmps45
      go_wp2
      go_ret
      exact ⟨rfl, rfl⟩
  · obtain rfl : b = false := by rw [← h]; simp; omega
    clear h
    have d0 : decide (-1048576 ≤ x) = false := by simpa using h0
    go_enter Tryd.func45, Tryd.ntmps45
    go_wp2
    go_ret
    exact ⟨rfl, rfl⟩
theorem rweight_b (a : Int) (b : Bool) (w : World) (h0 : -9223372036854775808 ≤ a) (h1 : a ≤ 9223372036854775807) (h : wgt a = b) :
    Calls Tryd.prog 46 #[.int .i64 a] w fun e w' => e = .returned (.bool b) ∧ w = w' := by
  subst h
  exact rweight_any a w h0 h1
theorem run_makeInts (n : Int) (h0 : 0 ≤ n) (h1 : n ≤ 1000000) (w : World) :
    (Instr.makeSlice 46 (.int .i64 n) (.int .i64 n)).run Tryd.prog w = .ok (.slice (some ⟨w.heap.size, 0, none⟩) n.toNat n.toNat) (w.alloc (.cells (madeCells #[.int .i64 0] n.toNat) 3)) := by
  obtain ⟨i0, hi, hz0, hz1, hz2⟩ := info_parts infoInt
  have := run_make (P := Tryd.prog) w 46 3 i0 (.int .i64 0) Tryd.underlying46 hi hz0 .i64 .i64 n n h0 (Int.le_refl _) (by rw [hz2]; omega) (by omega)
  rw [hz1, Nat.mul_one] at this
  exact this

/-- A row of counts, in memory. -/
def arrC (f : Nat → Int) (m : Nat) : Array Value := ((cntL f m).map (Value.int .i64)).toArray
theorem arrC_at (f : Nat → Int) {m i : Nat} (h : i < m) : (arrC f m)[i]? = some (.int .i64 (f i)) := by
  unfold arrC
  rw [List.getElem?_toArray, List.getElem?_map, cntL_at f h]
  rfl
theorem arrC_set {f g : Nat → Int} {m i : Nat} (h : i < m) (hi : g i = f i + 1) (ho : ∀ j, j ≠ i → g j = f j) : (arrC f m).setIfInBounds i (.int .i64 (f i + 1)) = arrC g m := by
  unfold arrC
  rw [List.setIfInBounds_toArray, ← List.map_set, cntL_set h hi ho]
theorem arrC_zero (m : Nat) : madeCells #[.int .i64 0] m = arrC (fun _ => 0) m := by
  apply Array.toList_inj.1
  rw [toList_madeCells_one]
  unfold arrC
  rw [cntL_zero]
  simp

/-- v points to a table of the call's own, which is empty. -/
def PtrRTab (W : World) (v : Value) (w : World) : Prop := ∃ b, v = .pointer (some ⟨b, 0, none⟩) ∧ W.heap.size ≤ b ∧ Blk w b #[.int .i64 0, .int .i64 0, .slice none 0 0] 60
theorem PtrRTab.below {W w w' : World} {v : Value} (h : PtrRTab W v w) (hb : Below w.heap.size w w') : PtrRTab W v w' := by
  obtain ⟨b, e, h1, h2⟩ := h
  exact ⟨b, e, h1, h2.keep hb⟩

set_option maxHeartbeats 1000000 in
set_option maxRecDepth 100000 in
theorem rchk_long0 (n : NetD) (vq aq tq : Option Addr) (vc ac tc : Nat) (w : World)  (h0 : 4096 < n.v.length) : Calls Tryd.prog 15 #[netVal n vq aq tq vc ac tc] w (WPost (chkN n).1 (chkN n).2 w) := by
  have HR : Hid (chkN n = ([(netB, 0)], 4)) := Lib.hid (by unfold chkN; rw [if_pos h0])
  have d0 : decide ((4096 : Int) < (n.v.length : Int)) = true := decide_eq_true (by omega)
  go_enter Tryd.func15, Tryd.ntmps15
  go_wp2_with fail
  obtain ⟨W0, hW0⟩ := named ((w.alloc (.cells #[.slice vq n.v.length vc, .slice aq n.a.length ac, .slice tq n.t.length tc] 26)).alloc (.cells #[.slice none 0 0, .int .i64 0] 41))
  rw [← hW0]
  have B0 : Hid (Below w.heap.size w W0) := by rw [hW0]; exact Lib.hid (below_alloc2 _ _)
  have KR : Hid (Blk W0 (w.heap.size + 1) #[.slice none 0 0, .int .i64 0] 41) := by rw [hW0]; exact Lib.hid (Blk.new _ _ _ _ (by simp))
  clear hW0
  refine (at_is netB 0 4 _).mono ?_
  rintro e wz ⟨wv, rfl, hW, hb⟩
  obtain ⟨gq, gn, gc, rfl⟩ := hW.shape
  have hkr := KR.out.keep hb
  have HF := Lib.hid (wrong_set hkr (fun s => by simp) (fun s => by simp) hW (.slice gq gn gc) (.int .i64 4))
  have HZ : Hid (Below w.heap.size w ((wz.setCell ⟨w.heap.size + 1, 0, none⟩ (.slice gq gn gc)).setCell ⟨w.heap.size + 1, 1, none⟩ (.int .i64 4))) := Lib.hid ((((B0.out.trans (hb.mono B0.out.size))).setCell (by simp only []; omega) _).setCell (by simp only []; omega) _)
  have hlt := hkr.lt
  obtain ⟨r0, r1, f0, f1⟩ := hkr.o2
  clear hkr hW hb
  go_wp2_with fail
  rw [HR.out]
  exact bodyPost_ret (v := .agg #[.slice gq gn gc, .int .i64 4]) (by simp [results, Tryd.results15, go_sem]; go_simp) rfl ⟨_, rfl, HF.out, HZ.out⟩

set_option maxHeartbeats 1000000 in
set_option maxRecDepth 100000 in
theorem rchk_long1 (n : NetD) (vq aq tq : Option Addr) (vc ac tc : Nat) (w : World)  (h0 : ¬ 4096 < n.v.length) (h1 : 16384 < n.a.length) : Calls Tryd.prog 15 #[netVal n vq aq tq vc ac tc] w (WPost (chkN n).1 (chkN n).2 w) := by
  have HR : Hid (chkN n = ([(netB, 1)], 4)) := Lib.hid (by unfold chkN; rw [if_neg h0, if_pos h1])
  have d0 : decide ((4096 : Int) < (n.v.length : Int)) = false := decide_eq_false (by omega)
  have d1 : decide ((16384 : Int) < (n.a.length : Int)) = true := decide_eq_true (by omega)
  go_enter Tryd.func15, Tryd.ntmps15
  go_wp2_with fail
  obtain ⟨W0, hW0⟩ := named ((w.alloc (.cells #[.slice vq n.v.length vc, .slice aq n.a.length ac, .slice tq n.t.length tc] 26)).alloc (.cells #[.slice none 0 0, .int .i64 0] 41))
  rw [← hW0]
  have B0 : Hid (Below w.heap.size w W0) := by rw [hW0]; exact Lib.hid (below_alloc2 _ _)
  have KR : Hid (Blk W0 (w.heap.size + 1) #[.slice none 0 0, .int .i64 0] 41) := by rw [hW0]; exact Lib.hid (Blk.new _ _ _ _ (by simp))
  clear hW0
  refine (at_is netB 1 4 _).mono ?_
  rintro e wz ⟨wv, rfl, hW, hb⟩
  obtain ⟨gq, gn, gc, rfl⟩ := hW.shape
  have hkr := KR.out.keep hb
  have HF := Lib.hid (wrong_set hkr (fun s => by simp) (fun s => by simp) hW (.slice gq gn gc) (.int .i64 4))
  have HZ : Hid (Below w.heap.size w ((wz.setCell ⟨w.heap.size + 1, 0, none⟩ (.slice gq gn gc)).setCell ⟨w.heap.size + 1, 1, none⟩ (.int .i64 4))) := Lib.hid ((((B0.out.trans (hb.mono B0.out.size))).setCell (by simp only []; omega) _).setCell (by simp only []; omega) _)
  have hlt := hkr.lt
  obtain ⟨r0, r1, f0, f1⟩ := hkr.o2
  clear hkr hW hb
  go_wp2_with fail
  rw [HR.out]
  exact bodyPost_ret (v := .agg #[.slice gq gn gc, .int .i64 4]) (by simp [results, Tryd.results15, go_sem]; go_simp) rfl ⟨_, rfl, HF.out, HZ.out⟩

set_option maxHeartbeats 1000000 in
set_option maxRecDepth 100000 in
theorem rchk_long2 (n : NetD) (vq aq tq : Option Addr) (vc ac tc : Nat) (w : World)  (h0 : ¬ 4096 < n.v.length) (h1 : ¬ 16384 < n.a.length) (h2 : 256 < n.t.length) : Calls Tryd.prog 15 #[netVal n vq aq tq vc ac tc] w (WPost (chkN n).1 (chkN n).2 w) := by
  have HR : Hid (chkN n = ([(netB, 2)], 4)) := Lib.hid (by unfold chkN; rw [if_neg h0, if_neg h1, if_pos h2])
  have d0 : decide ((4096 : Int) < (n.v.length : Int)) = false := decide_eq_false (by omega)
  have d1 : decide ((16384 : Int) < (n.a.length : Int)) = false := decide_eq_false (by omega)
  have d2 : decide ((256 : Int) < (n.t.length : Int)) = true := decide_eq_true (by omega)
  go_enter Tryd.func15, Tryd.ntmps15
  go_wp2_with fail
  obtain ⟨W0, hW0⟩ := named ((w.alloc (.cells #[.slice vq n.v.length vc, .slice aq n.a.length ac, .slice tq n.t.length tc] 26)).alloc (.cells #[.slice none 0 0, .int .i64 0] 41))
  rw [← hW0]
  have B0 : Hid (Below w.heap.size w W0) := by rw [hW0]; exact Lib.hid (below_alloc2 _ _)
  have KR : Hid (Blk W0 (w.heap.size + 1) #[.slice none 0 0, .int .i64 0] 41) := by rw [hW0]; exact Lib.hid (Blk.new _ _ _ _ (by simp))
  clear hW0
  refine (at_is netB 2 4 _).mono ?_
  rintro e wz ⟨wv, rfl, hW, hb⟩
  obtain ⟨gq, gn, gc, rfl⟩ := hW.shape
  have hkr := KR.out.keep hb
  have HF := Lib.hid (wrong_set hkr (fun s => by simp) (fun s => by simp) hW (.slice gq gn gc) (.int .i64 4))
  have HZ : Hid (Below w.heap.size w ((wz.setCell ⟨w.heap.size + 1, 0, none⟩ (.slice gq gn gc)).setCell ⟨w.heap.size + 1, 1, none⟩ (.int .i64 4))) := Lib.hid ((((B0.out.trans (hb.mono B0.out.size))).setCell (by simp only []; omega) _).setCell (by simp only []; omega) _)
  have hlt := hkr.lt
  obtain ⟨r0, r1, f0, f1⟩ := hkr.o2
  clear hkr hW hb
  go_wp2_with fail
  rw [HR.out]
  exact bodyPost_ret (v := .agg #[.slice gq gn gc, .int .i64 4]) (by simp [results, Tryd.results15, go_sem]; go_simp) rfl ⟨_, rfl, HF.out, HZ.out⟩

set_option maxHeartbeats 8000000 in
set_option maxRecDepth 100000 in
theorem rchk_main (n : NetD) (vq aq tq : Option Addr) (vc ac tc : Nat) (w : World) (h : NetS w n vq aq tq vc ac tc) (hs : NetSmall n) (hin : InNet n) : Calls Tryd.prog 15 #[netVal n vq aq tq vc ac tc] w (WPost (chkN n).1 (chkN n).2 w) := by
  obtain ⟨hsv, hsa, hst⟩ := hs
  have HSM := Lib.hid (NetSmall.mk hsv hsa hst)
  have HIN := Lib.hid hin
  have d0 : decide ((4096 : Int) < (n.v.length : Int)) = false := decide_eq_false (by omega)
  have d1 : decide ((16384 : Int) < (n.a.length : Int)) = false := decide_eq_false (by omega)
  have d2 : decide ((256 : Int) < (n.t.length : Int)) = false := decide_eq_false (by omega)
  clear hin
  go_enter Tryd.func15, Tryd.ntmps15
  go_wp2_with fail
  obtain ⟨W0, hW0⟩ := named ((w.alloc (.cells #[.slice vq n.v.length vc, .slice aq n.a.length ac, .slice tq n.t.length tc] 26)).alloc (.cells #[.slice none 0 0, .int .i64 0] 41))
  rw [← hW0]
  have B0 : Hid (Below w.heap.size w W0) := by rw [hW0]; exact Lib.hid (below_alloc2 _ _)
  have KN : Hid (Blk W0 w.heap.size #[.slice vq n.v.length vc, .slice aq n.a.length ac, .slice tq n.t.length tc] 26) := by rw [hW0]; exact Lib.hid ((Blk.new _ _ _ _ rfl).old _)
  have KR : Hid (Blk W0 (w.heap.size + 1) #[.slice none 0 0, .int .i64 0] 41) := by rw [hW0]; exact Lib.hid (Blk.new _ _ _ _ (by simp))
  have HS := Lib.hid (h.below B0.out)
  clear h hW0 d0 d1 d2
  go_loopw [3, 4] (fun i _ wr => ∃ k : Nat, k ≤ n.t.length ∧ i = .int .i64 k ∧ Hid (firstBad typeFlt 0 (n.t.take k) = fltOK) ∧ Hid (Below W0.heap.size W0 wr)) (fun i _ _ => n.t.length - (intOf i).toNat)
  case atStart => exact ⟨0, Nat.zero_le _, rfl, Lib.hid rfl, Lib.hid (Below.refl _ _)⟩
  case round =>
    obtain ⟨k, hk, rfl, HT, HBr⟩ := hrel
    have KNr := Lib.hid (KN.out.keep HBr.out)
    obtain ⟨c0, c1, c2, -, -, -⟩ := KNr.out.o3
    by_cases hlt : k < n.t.length
    · have hli : (k : Int) < (n.t.length : Int) := by omega
      obtain ⟨tb, tz, tu, rfl, x0, x1, x2, xt⟩ := (HS.out.below HBr.out).t.at hlt
      have hin := (HIN.out.2.2 n.t[k] (List.getElem_mem _)).2.2
      obtain ⟨A, eA⟩ : ∃ A, n.t[k] = A := ⟨_, rfl⟩
      rw [eA] at x0 x1 xt hin
      have hbb := World.block_lt_of_cell? wr _ x0
      have XT := Lib.hid xt
      have HI := Lib.hid hin
      clear xt hin
      by_cases hc : (chkT A.1 A.2.1 A.2.2).2 = 0
      · have HC := Lib.hid (chkT_zero hc)
        have HN : Hid (firstBad typeFlt 0 (n.t.take (k + 1)) = fltOK) := Lib.hid (fb_ok hlt HT.out (by rw [eA]; unfold typeFlt; rw [if_pos hc]; rfl))
        clear hc eA
        go_wp2_with fail
        refine (rcheck_any A.1 A.2.1 _ A.2.2 wr XT.out HI.out).mono ?_
        rw [HC.out]
        rintro e wz ⟨wv, rfl, hW, hb⟩
        have hW0 : WrongV wz wv [] 0 := hW
        obtain ⟨gq, gc, rfl⟩ := hW0.none
        have HB2 : Hid (Below W0.heap.size W0 (wz.alloc (.cells #[.slice gq 0 gc, .int .i64 0] 41))) := Lib.hid ((HBr.out.trans (hb.mono HBr.out.size)).trans ((below_new _).mono (Nat.le_trans HBr.out.size hb.size)))
        clear hW hW0 hb x0 x1 x2 c0 c1 c2
        go_wp2_with fail
        go_roundw
        case rel => exact ⟨k + 1, by omega, by go_num, HN, HB2⟩
        case measure => simp [intOf]; omega
      · have HR : Hid (chkN n = ((typeB, (k : Int)) :: turnW (chkT A.1 A.2.1 A.2.2), (chkT A.1 A.2.1 A.2.2).2)) := Lib.hid (by
          have ef : typeFlt k n.t[k] = ((typeB, (k : Int)) :: turnW (chkT A.1 A.2.1 A.2.2), (chkT A.1 A.2.1 A.2.2).2) := by rw [eA]; unfold typeFlt; rw [if_neg hc]
          exact chkN_t HSM.out ((fb_bad hlt HT.out (by rw [ef]; exact hc)).trans ef) hc)
        obtain ⟨E, eE⟩ : ∃ E, (chkT A.1 A.2.1 A.2.2).2 = E := ⟨_, rfl⟩
        obtain ⟨PS, eP⟩ : ∃ PS, turnW (chkT A.1 A.2.1 A.2.2) = PS := ⟨_, rfl⟩
        have hps : PS ≠ [] ∧ PS.length ≤ 1000 := by rw [← eP]; unfold turnW; rw [if_neg hc]; simp
        rw [eE] at hc
        have HE := Lib.hid eE
        have HP := Lib.hid eP
        have HPS := Lib.hid hps
        have HC0 := Lib.hid hc
        have hc' : (E == 0) = false := by simpa using hc
        rw [eE, eP] at HR
        clear eA eE eP hps hc
        go_wp2_with fail
        refine (rcheck_any A.1 A.2.1 _ A.2.2 wr XT.out HI.out).mono ?_
        rw [HE.out, HP.out]
        rintro e wy ⟨wv, rfl, hW, hb⟩
        obtain ⟨gq, gn, gc, rfl⟩ := hW.shape
        have hb2 : Below W0.heap.size W0 (wy.alloc (.cells #[.slice gq gn gc, .int .i64 E] 41)) := (HBr.out.trans (hb.mono HBr.out.size)).trans ((below_new _).mono (Nat.le_trans HBr.out.size hb.size))
        obtain ⟨WY, hWY⟩ := named (wy.alloc (.cells #[.slice gq gn gc, .int .i64 E] 41))
        rw [← hWY] at hb2
        have HB2 := Lib.hid hb2
        have KW : Hid (Blk WY wy.heap.size #[.slice gq gn gc, .int .i64 E] 41) := by rw [hWY]; exact Lib.hid (Blk.new _ _ _ _ rfl)
        have HWV : Hid (WrongV WY (.agg #[.slice gq gn gc, .int .i64 E]) PS E) := by rw [hWY]; exact Lib.hid (WrongV.below (below_new _) hW)
        have HEQ := Lib.hid hWY
        clear hW hb x0 x1 x2 c0 c1 c2 hb2 hWY
        go_wp2_with fail
        rw [← HEQ.out]
        have KR2 := Lib.hid (KR.out.keep HB2.out)
        have BW2 := Lib.hid (B0.out.trans (HB2.out.mono B0.out.size))
        refine (rwithin_any typeB k _ PS E WY HWV.out HPS.out.1 HC0.out HPS.out.2).mono ?_
        rintro e wz ⟨wv, rfl, hW, hb⟩
        obtain ⟨gq, gn, gc, rfl⟩ := hW.shape
        have hkr := KR2.out.keep hb
        have HF := Lib.hid (wrong_set hkr (fun s => by simp) (fun s => by simp) hW (.slice gq gn gc) (.int .i64 E))
        have HZ : Hid (Below w.heap.size w ((wz.setCell ⟨w.heap.size + 1, 0, none⟩ (.slice gq gn gc)).setCell ⟨w.heap.size + 1, 1, none⟩ (.int .i64 E))) := Lib.hid ((((BW2.out.trans (hb.mono BW2.out.size))).setCell (by simp only []; omega) _).setCell (by simp only []; omega) _)
        have hlt := hkr.lt
        obtain ⟨r0, r1, f0, f1⟩ := hkr.o2
        clear hkr hW hb
        go_wp2_with fail
        rw [HR.out]
        exact bodyPost_ret (v := .agg #[.slice gq gn gc, .int .i64 E]) (by simp [results, Tryd.results15, go_sem]; go_simp) rfl ⟨_, rfl, HF.out, HZ.out⟩
    · have HT1 : Hid (firstBad typeFlt 0 n.t = fltOK) := Lib.hid (by have := HT.out; rwa [List.take_of_length_le (by omega)] at this)
      have hli : ¬ (k : Int) < (n.t.length : Int) := by omega
      go_wp2_with fail
      clear c0 c1 c2 hli
      go_loopw [5, 6] (fun i _ wr => ∃ k : Nat, k ≤ n.v.length ∧ i = .int .i64 k ∧ Hid (firstBad (vertFlt n.t.length) 0 (n.v.take k) = fltOK) ∧ Hid (Below W0.heap.size W0 wr)) (fun i _ _ => n.v.length - (intOf i).toNat)
      case atStart => exact ⟨0, Nat.zero_le _, rfl, Lib.hid rfl, HBr⟩
      case round =>
        obtain ⟨k, hk, rfl, HT, HBr⟩ := hrel
        have KNr := Lib.hid (KN.out.keep HBr.out)
        obtain ⟨c0, c1, c2, -, -, -⟩ := KNr.out.o3
        by_cases hlt : k < n.v.length
        · have hli : (k : Int) < (n.v.length : Int) := by omega
          obtain ⟨vb, vo, rfl, x0, x1, x2⟩ := (HS.out.below HBr.out).v.at hlt
          have hin := HIN.out.1 n.v[k] (List.getElem_mem _)
          obtain ⟨⟨X, Y, T⟩, eA⟩ : ∃ A, n.v[k] = A := ⟨_, rfl⟩
          rw [eA] at x0 x1 x2 hin
          obtain ⟨⟨i0, i1⟩, ⟨i2, i3⟩, ⟨i4, i5⟩⟩ := hin
          simp only [] at x0 x1 x2 i0 i1 i2 i3 i4 i5
          have hbb := World.block_lt_of_cell? wr _ x0
          have HB2 : Hid (Below W0.heap.size W0 (wr.alloc (.cells #[.int .i64 X, .int .i64 Y, .int .i64 T] 62))) := Lib.hid (HBr.out.trans ((below_new _).mono HBr.out.size))
          have KN2 := Lib.hid (KN.out.keep HB2.out)
          cases hX : coordB X with
          | false =>
            have CX := Lib.hid hX
            have HR : Hid (chkN n = ([(vertB, (k : Int))], 1)) := Lib.hid (by
              have ef : vertFlt n.t.length k n.v[k] = ([(vertB, (k : Int))], 1) := by rw [eA]; unfold vertFlt; rw [if_pos hX]
              exact chkN_v HSM.out HT1.out ((fb_bad hlt HT.out (by rw [ef]; simp)).trans ef) (by simp))
            clear eA
            go_wp2_with fail
            clear x0 x1 x2 c0 c1 c2
            refine (rcoord_is X false _ CX.out).mono ?_
            rintro e w' ⟨rfl, rfl⟩
            go_wp2_with fail
            have KR2 := Lib.hid (KR.out.keep HB2.out)
            have BW2 := Lib.hid (B0.out.trans (HB2.out.mono B0.out.size))
            refine (at_is vertB k 1 _).mono ?_
            rintro e wz ⟨wv, rfl, hW, hb⟩
            obtain ⟨gq, gn, gc, rfl⟩ := hW.shape
            have hkr := KR2.out.keep hb
            have HF := Lib.hid (wrong_set hkr (fun s => by simp) (fun s => by simp) hW (.slice gq gn gc) (.int .i64 1))
            have HZ : Hid (Below w.heap.size w ((wz.setCell ⟨w.heap.size + 1, 0, none⟩ (.slice gq gn gc)).setCell ⟨w.heap.size + 1, 1, none⟩ (.int .i64 1))) := Lib.hid ((((BW2.out.trans (hb.mono BW2.out.size))).setCell (by simp only []; omega) _).setCell (by simp only []; omega) _)
            have hlt := hkr.lt
            obtain ⟨r0, r1, f0, f1⟩ := hkr.o2
            clear hkr hW hb
            go_wp2_with fail
            rw [HR.out]
            exact bodyPost_ret (v := .agg #[.slice gq gn gc, .int .i64 1]) (by simp [results, Tryd.results15, go_sem]; go_simp) rfl ⟨_, rfl, HF.out, HZ.out⟩
          | true =>
            have CX := Lib.hid hX
            cases hY : coordB Y with
            | false =>
              have CY := Lib.hid hY
              have HR : Hid (chkN n = ([(vertB, (k : Int))], 1)) := Lib.hid (by
                have ef : vertFlt n.t.length k n.v[k] = ([(vertB, (k : Int))], 1) := by rw [eA]; unfold vertFlt; rw [if_neg (by simp [hX]), if_pos hY]
                exact chkN_v HSM.out HT1.out ((fb_bad hlt HT.out (by rw [ef]; simp)).trans ef) (by simp))
              clear eA
              go_wp2_with fail
              clear x0 x1 x2 c0 c1 c2
              refine (rcoord_is X true _ CX.out).mono ?_
              rintro e w' ⟨rfl, rfl⟩
              go_wp2_with fail
              refine (rcoord_is Y false _ CY.out).mono ?_
              rintro e w' ⟨rfl, rfl⟩
              go_wp2_with fail
              have KR2 := Lib.hid (KR.out.keep HB2.out)
              have BW2 := Lib.hid (B0.out.trans (HB2.out.mono B0.out.size))
              refine (at_is vertB k 1 _).mono ?_
              rintro e wz ⟨wv, rfl, hW, hb⟩
              obtain ⟨gq, gn, gc, rfl⟩ := hW.shape
              have hkr := KR2.out.keep hb
              have HF := Lib.hid (wrong_set hkr (fun s => by simp) (fun s => by simp) hW (.slice gq gn gc) (.int .i64 1))
              have HZ : Hid (Below w.heap.size w ((wz.setCell ⟨w.heap.size + 1, 0, none⟩ (.slice gq gn gc)).setCell ⟨w.heap.size + 1, 1, none⟩ (.int .i64 1))) := Lib.hid ((((BW2.out.trans (hb.mono BW2.out.size))).setCell (by simp only []; omega) _).setCell (by simp only []; omega) _)
              have hlt := hkr.lt
              obtain ⟨r0, r1, f0, f1⟩ := hkr.o2
              clear hkr hW hb
              go_wp2_with fail
              rw [HR.out]
              exact bodyPost_ret (v := .agg #[.slice gq gn gc, .int .i64 1]) (by simp [results, Tryd.results15, go_sem]; go_simp) rfl ⟨_, rfl, HF.out, HZ.out⟩
            | true =>
              have CY := Lib.hid hY
              by_cases h0 : T < 0
              · have d0 : decide (T < 0) = true := decide_eq_true h0
                have HR : Hid (chkN n = ([(vertB, (k : Int))], 5)) := Lib.hid (by
                  have ef : vertFlt n.t.length k n.v[k] = ([(vertB, (k : Int))], 5) := by rw [eA]; unfold vertFlt; rw [if_neg (by simp [hX]), if_neg (by simp [hY]), if_pos h0]
                  exact chkN_v HSM.out HT1.out ((fb_bad hlt HT.out (by rw [ef]; simp)).trans ef) (by simp))
                clear eA
                go_wp2_with fail
                clear x0 x1 x2 c0 c1 c2
                refine (rcoord_is X true _ CX.out).mono ?_
                rintro e w' ⟨rfl, rfl⟩
                go_wp2_with fail
                refine (rcoord_is Y true _ CY.out).mono ?_
                rintro e w' ⟨rfl, rfl⟩
                go_wp2_with fail
                have KR2 := Lib.hid (KR.out.keep HB2.out)
                have BW2 := Lib.hid (B0.out.trans (HB2.out.mono B0.out.size))
                refine (at_is vertB k 5 _).mono ?_
                rintro e wz ⟨wv, rfl, hW, hb⟩
                obtain ⟨gq, gn, gc, rfl⟩ := hW.shape
                have hkr := KR2.out.keep hb
                have HF := Lib.hid (wrong_set hkr (fun s => by simp) (fun s => by simp) hW (.slice gq gn gc) (.int .i64 5))
                have HZ : Hid (Below w.heap.size w ((wz.setCell ⟨w.heap.size + 1, 0, none⟩ (.slice gq gn gc)).setCell ⟨w.heap.size + 1, 1, none⟩ (.int .i64 5))) := Lib.hid ((((BW2.out.trans (hb.mono BW2.out.size))).setCell (by simp only []; omega) _).setCell (by simp only []; omega) _)
                have hlt := hkr.lt
                obtain ⟨r0, r1, f0, f1⟩ := hkr.o2
                clear hkr hW hb
                go_wp2_with fail
                rw [HR.out]
                exact bodyPost_ret (v := .agg #[.slice gq gn gc, .int .i64 5]) (by simp [results, Tryd.results15, go_sem]; go_simp) rfl ⟨_, rfl, HF.out, HZ.out⟩
              · have d0 : decide (T < 0) = false := decide_eq_false h0
                obtain ⟨kt, rfl⟩ : ∃ kt : Nat, T = kt := ⟨T.toNat, by omega⟩
                by_cases h1 : n.t.length ≤ kt
                · have h1' : ¬ kt < n.t.length := by omega
                  have HR : Hid (chkN n = ([(vertB, (k : Int))], 5)) := Lib.hid (by
                    have ef : vertFlt n.t.length k n.v[k] = ([(vertB, (k : Int))], 5) := by rw [eA]; unfold vertFlt; rw [if_neg (by simp [hX]), if_neg (by simp [hY]), if_neg h0, if_pos (by simp only []; omega)]
                    exact chkN_v HSM.out HT1.out ((fb_bad hlt HT.out (by rw [ef]; simp)).trans ef) (by simp))
                  clear eA
                  go_wp2_with fail
                  clear x0 x1 x2 c0 c1 c2
                  refine (rcoord_is X true _ CX.out).mono ?_
                  rintro e w' ⟨rfl, rfl⟩
                  go_wp2_with fail
                  refine (rcoord_is Y true _ CY.out).mono ?_
                  rintro e w' ⟨rfl, rfl⟩
                  obtain ⟨m0, m1, m2, -, -, -⟩ := KN2.out.o3
                  go_wp2_with fail
                  clear m0 m1 m2
                  have KR2 := Lib.hid (KR.out.keep HB2.out)
                  have BW2 := Lib.hid (B0.out.trans (HB2.out.mono B0.out.size))
                  refine (at_is vertB k 5 _).mono ?_
                  rintro e wz ⟨wv, rfl, hW, hb⟩
                  obtain ⟨gq, gn, gc, rfl⟩ := hW.shape
                  have hkr := KR2.out.keep hb
                  have HF := Lib.hid (wrong_set hkr (fun s => by simp) (fun s => by simp) hW (.slice gq gn gc) (.int .i64 5))
                  have HZ : Hid (Below w.heap.size w ((wz.setCell ⟨w.heap.size + 1, 0, none⟩ (.slice gq gn gc)).setCell ⟨w.heap.size + 1, 1, none⟩ (.int .i64 5))) := Lib.hid ((((BW2.out.trans (hb.mono BW2.out.size))).setCell (by simp only []; omega) _).setCell (by simp only []; omega) _)
                  have hlt := hkr.lt
                  obtain ⟨r0, r1, f0, f1⟩ := hkr.o2
                  clear hkr hW hb
                  go_wp2_with fail
                  rw [HR.out]
                  exact bodyPost_ret (v := .agg #[.slice gq gn gc, .int .i64 5]) (by simp [results, Tryd.results15, go_sem]; go_simp) rfl ⟨_, rfl, HF.out, HZ.out⟩
                · have h1' : kt < n.t.length := by omega
                  have HN : Hid (firstBad (vertFlt n.t.length) 0 (n.v.take (k + 1)) = fltOK) := Lib.hid (fb_ok hlt HT.out (by rw [eA]; unfold vertFlt; rw [if_neg (by simp [hX]), if_neg (by simp [hY]), if_neg h0, if_neg (by simp only []; omega)]; rfl))
                  clear eA
                  go_wp2_with fail
                  clear x0 x1 x2 c0 c1 c2
                  refine (rcoord_is X true _ CX.out).mono ?_
                  rintro e w' ⟨rfl, rfl⟩
                  go_wp2_with fail
                  refine (rcoord_is Y true _ CY.out).mono ?_
                  rintro e w' ⟨rfl, rfl⟩
                  obtain ⟨m0, m1, m2, -, -, -⟩ := KN2.out.o3
                  go_wp2_with fail
                  clear m0 m1 m2
                  go_roundw
                  case rel => exact ⟨k + 1, by omega, by go_num, HN, HB2⟩
                  case measure => simp [intOf]; omega
        · have HT2 : Hid (firstBad (vertFlt n.t.length) 0 n.v = fltOK) := Lib.hid (by have := HT.out; rwa [List.take_of_length_le (by omega)] at this)
          have hli : ¬ (k : Int) < (n.v.length : Int) := by omega
          have hmk := run_makeInts (n.v.length : Int) (by omega) (by omega)
          have hkl := KNr.out.lt
          go_wp2_with fail
          clear c0 c1 c2 hli hmk hkl
          obtain ⟨WV, rfl⟩ : ∃ W, W = wr := ⟨_, rfl⟩
          have HBV := Lib.hid HBr.out
          clear HBr
          go_loopw [9, 10] (fun i _ wr => ∃ k : Nat, k ≤ n.a.length ∧ i = .int .i64 k ∧ Hid (firstBad (arcFlt n.v.length) 0 (n.a.take k) = fltOK) ∧ Hid (Blk wr (WV.heap.size) (arrC (fun v => insC (n.a.take k) v) n.v.length) 3) ∧ Hid (Blk wr (WV.heap.size + 1) (arrC (fun v => outsC (n.a.take k) v) n.v.length) 3) ∧
              Hid (Below WV.heap.size WV wr) ∧ WV.heap.size + 2 ≤ wr.heap.size) (fun i _ _ => n.a.length - (intOf i).toNat)
          case atStart =>
            refine ⟨0, Nat.zero_le _, rfl, Lib.hid rfl, Lib.hid ?_, Lib.hid ?_, Lib.hid (below_alloc2 _ _), by simp⟩
            · rw [arrC_zero]
              exact (Blk.new WV _ _ _ rfl).old _
            · rw [arrC_zero]
              exact Blk.new _ _ _ _ (by simp)
          case round =>
            obtain ⟨k, hk, rfl, HT, KI, KO, HBr, hz⟩ := hrel
            have HB0 := Lib.hid (HBV.out.trans (HBr.out.mono HBV.out.size))
            have KNr := Lib.hid (KN.out.keep HB0.out)
            obtain ⟨c0, c1, c2, -, -, -⟩ := KNr.out.o3
            by_cases hlt : k < n.a.length
            · have hli : (k : Int) < (n.a.length : Int) := by omega
              obtain ⟨ab, ao, rfl, x0, x1, x2⟩ := (HS.out.below HB0.out).a.at hlt
              have hin := HIN.out.2.1 n.a[k] (List.getElem_mem _)
              obtain ⟨⟨F, T, Q⟩, eA⟩ : ∃ A, n.a[k] = A := ⟨_, rfl⟩
              rw [eA] at x0 x1 x2 hin
              obtain ⟨⟨i0, i1⟩, ⟨i2, i3⟩, ⟨i4, i5⟩⟩ := hin
              simp only [] at x0 x1 x2 i0 i1 i2 i3 i4 i5
              have hbb := World.block_lt_of_cell? wr _ x0
              have HB2 : Hid (Below W0.heap.size W0 (wr.alloc (.cells #[.int .i64 F, .int .i64 T, .int .i64 Q] 70))) := Lib.hid (HB0.out.trans ((below_new _).mono HB0.out.size))
              have KN2 := Lib.hid (KN.out.keep HB2.out)
              by_cases hF0 : F < 0
              · have d0 : decide (F < 0) = true := decide_eq_true hF0
                have HR : Hid (chkN n = ([(arcB, (k : Int))], 5)) := Lib.hid (by
                  have ef : arcFlt n.v.length k n.a[k] = ([(arcB, (k : Int))], 5) := by rw [eA]; unfold arcFlt; rw [if_pos hF0]
                  exact chkN_a HSM.out HT1.out HT2.out ((fb_bad hlt HT.out (by rw [ef]; simp)).trans ef) (by simp))
                clear eA
                obtain ⟨m0, m1, m2, -, -, -⟩ := KN2.out.o3
                go_wp2_with fail
                clear x0 x1 x2 c0 c1 c2 m0 m1 m2
                have KR2 := Lib.hid (KR.out.keep HB2.out)
                have BW2 := Lib.hid (B0.out.trans (HB2.out.mono B0.out.size))
                refine (at_is arcB k 5 _).mono ?_
                rintro e wz ⟨wv, rfl, hW, hb⟩
                obtain ⟨gq, gn, gc, rfl⟩ := hW.shape
                have hkr := KR2.out.keep hb
                have HF := Lib.hid (wrong_set hkr (fun s => by simp) (fun s => by simp) hW (.slice gq gn gc) (.int .i64 5))
                have HZ : Hid (Below w.heap.size w ((wz.setCell ⟨w.heap.size + 1, 0, none⟩ (.slice gq gn gc)).setCell ⟨w.heap.size + 1, 1, none⟩ (.int .i64 5))) := Lib.hid ((((BW2.out.trans (hb.mono BW2.out.size))).setCell (by simp only []; omega) _).setCell (by simp only []; omega) _)
                have hlt := hkr.lt
                obtain ⟨r0, r1, f0, f1⟩ := hkr.o2
                clear hkr hW hb
                go_wp2_with fail
                rw [HR.out]
                exact bodyPost_ret (v := .agg #[.slice gq gn gc, .int .i64 5]) (by simp [results, Tryd.results15, go_sem]; go_simp) rfl ⟨_, rfl, HF.out, HZ.out⟩
              · have d0 : decide (F < 0) = false := decide_eq_false hF0
                obtain ⟨kf, rfl⟩ : ∃ kf : Nat, F = kf := ⟨F.toNat, by omega⟩
                by_cases hF1 : n.v.length ≤ kf
                · have hF1' : ¬ kf < n.v.length := by omega
                  have HR : Hid (chkN n = ([(arcB, (k : Int))], 5)) := Lib.hid (by
                    have ef : arcFlt n.v.length k n.a[k] = ([(arcB, (k : Int))], 5) := by rw [eA]; unfold arcFlt; rw [if_neg hF0, if_pos (by simp only []; omega)]
                    exact chkN_a HSM.out HT1.out HT2.out ((fb_bad hlt HT.out (by rw [ef]; simp)).trans ef) (by simp))
                  clear eA
                  obtain ⟨m0, m1, m2, -, -, -⟩ := KN2.out.o3
                  go_wp2_with fail
                  clear x0 x1 x2 c0 c1 c2 m0 m1 m2
                  have KR2 := Lib.hid (KR.out.keep HB2.out)
                  have BW2 := Lib.hid (B0.out.trans (HB2.out.mono B0.out.size))
                  refine (at_is arcB k 5 _).mono ?_
                  rintro e wz ⟨wv, rfl, hW, hb⟩
                  obtain ⟨gq, gn, gc, rfl⟩ := hW.shape
                  have hkr := KR2.out.keep hb
                  have HF := Lib.hid (wrong_set hkr (fun s => by simp) (fun s => by simp) hW (.slice gq gn gc) (.int .i64 5))
                  have HZ : Hid (Below w.heap.size w ((wz.setCell ⟨w.heap.size + 1, 0, none⟩ (.slice gq gn gc)).setCell ⟨w.heap.size + 1, 1, none⟩ (.int .i64 5))) := Lib.hid ((((BW2.out.trans (hb.mono BW2.out.size))).setCell (by simp only []; omega) _).setCell (by simp only []; omega) _)
                  have hlt := hkr.lt
                  obtain ⟨r0, r1, f0, f1⟩ := hkr.o2
                  clear hkr hW hb
                  go_wp2_with fail
                  rw [HR.out]
                  exact bodyPost_ret (v := .agg #[.slice gq gn gc, .int .i64 5]) (by simp [results, Tryd.results15, go_sem]; go_simp) rfl ⟨_, rfl, HF.out, HZ.out⟩
                · have hF1' : kf < n.v.length := by omega
                  by_cases hT0 : T < 0
                  · have d1 : decide (T < 0) = true := decide_eq_true hT0
                    have HR : Hid (chkN n = ([(arcB, (k : Int))], 5)) := Lib.hid (by
                      have ef : arcFlt n.v.length k n.a[k] = ([(arcB, (k : Int))], 5) := by rw [eA]; unfold arcFlt; rw [if_neg hF0, if_neg (by simp only []; omega), if_pos hT0]
                      exact chkN_a HSM.out HT1.out HT2.out ((fb_bad hlt HT.out (by rw [ef]; simp)).trans ef) (by simp))
                    clear eA
                    obtain ⟨m0, m1, m2, -, -, -⟩ := KN2.out.o3
                    go_wp2_with fail
                    clear x0 x1 x2 c0 c1 c2 m0 m1 m2
                    have KR2 := Lib.hid (KR.out.keep HB2.out)
                    have BW2 := Lib.hid (B0.out.trans (HB2.out.mono B0.out.size))
                    refine (at_is arcB k 5 _).mono ?_
                    rintro e wz ⟨wv, rfl, hW, hb⟩
                    obtain ⟨gq, gn, gc, rfl⟩ := hW.shape
                    have hkr := KR2.out.keep hb
                    have HF := Lib.hid (wrong_set hkr (fun s => by simp) (fun s => by simp) hW (.slice gq gn gc) (.int .i64 5))
                    have HZ : Hid (Below w.heap.size w ((wz.setCell ⟨w.heap.size + 1, 0, none⟩ (.slice gq gn gc)).setCell ⟨w.heap.size + 1, 1, none⟩ (.int .i64 5))) := Lib.hid ((((BW2.out.trans (hb.mono BW2.out.size))).setCell (by simp only []; omega) _).setCell (by simp only []; omega) _)
                    have hlt := hkr.lt
                    obtain ⟨r0, r1, f0, f1⟩ := hkr.o2
                    clear hkr hW hb
                    go_wp2_with fail
                    rw [HR.out]
                    exact bodyPost_ret (v := .agg #[.slice gq gn gc, .int .i64 5]) (by simp [results, Tryd.results15, go_sem]; go_simp) rfl ⟨_, rfl, HF.out, HZ.out⟩
                  · have d1 : decide (T < 0) = false := decide_eq_false hT0
                    obtain ⟨kt, rfl⟩ : ∃ kt : Nat, T = kt := ⟨T.toNat, by omega⟩
                    by_cases hT1 : n.v.length ≤ kt
                    · have hT1' : ¬ kt < n.v.length := by omega
                      have HR : Hid (chkN n = ([(arcB, (k : Int))], 5)) := Lib.hid (by
                        have ef : arcFlt n.v.length k n.a[k] = ([(arcB, (k : Int))], 5) := by rw [eA]; unfold arcFlt; rw [if_neg hF0, if_neg (by simp only []; omega), if_neg hT0, if_pos (by simp only []; omega)]
                        exact chkN_a HSM.out HT1.out HT2.out ((fb_bad hlt HT.out (by rw [ef]; simp)).trans ef) (by simp))
                      clear eA
                      obtain ⟨m0, m1, m2, -, -, -⟩ := KN2.out.o3
                      go_wp2_with fail
                      clear x0 x1 x2 c0 c1 c2 m0 m1 m2
                      have KR2 := Lib.hid (KR.out.keep HB2.out)
                      have BW2 := Lib.hid (B0.out.trans (HB2.out.mono B0.out.size))
                      refine (at_is arcB k 5 _).mono ?_
                      rintro e wz ⟨wv, rfl, hW, hb⟩
                      obtain ⟨gq, gn, gc, rfl⟩ := hW.shape
                      have hkr := KR2.out.keep hb
                      have HF := Lib.hid (wrong_set hkr (fun s => by simp) (fun s => by simp) hW (.slice gq gn gc) (.int .i64 5))
                      have HZ : Hid (Below w.heap.size w ((wz.setCell ⟨w.heap.size + 1, 0, none⟩ (.slice gq gn gc)).setCell ⟨w.heap.size + 1, 1, none⟩ (.int .i64 5))) := Lib.hid ((((BW2.out.trans (hb.mono BW2.out.size))).setCell (by simp only []; omega) _).setCell (by simp only []; omega) _)
                      have hlt := hkr.lt
                      obtain ⟨r0, r1, f0, f1⟩ := hkr.o2
                      clear hkr hW hb
                      go_wp2_with fail
                      rw [HR.out]
                      exact bodyPost_ret (v := .agg #[.slice gq gn gc, .int .i64 5]) (by simp [results, Tryd.results15, go_sem]; go_simp) rfl ⟨_, rfl, HF.out, HZ.out⟩
                    · have hT1' : kt < n.v.length := by omega
                      have I4 := Lib.hid (And.intro i4 i5)
                      cases hQ : wgt Q with
                      | false =>
                        have CQ := Lib.hid hQ
                        have HR : Hid (chkN n = ([(arcB, (k : Int))], 8)) := Lib.hid (by
                          have ef : arcFlt n.v.length k n.a[k] = ([(arcB, (k : Int))], 8) := by rw [eA]; unfold arcFlt; rw [if_neg hF0, if_neg (by simp only []; omega), if_neg hT0, if_neg (by simp only []; omega), if_pos hQ]
                          exact chkN_a HSM.out HT1.out HT2.out ((fb_bad hlt HT.out (by rw [ef]; simp)).trans ef) (by simp))
                        clear eA
                        obtain ⟨m0, m1, m2, -, -, -⟩ := KN2.out.o3
                        go_wp2_with fail
                        clear x0 x1 x2 c0 c1 c2 m0 m1 m2
                        refine (rweight_b Q false _ I4.out.1 I4.out.2 CQ.out).mono ?_
                        rintro e w' ⟨rfl, rfl⟩
                        go_wp2_with fail
                        have KR2 := Lib.hid (KR.out.keep HB2.out)
                        have BW2 := Lib.hid (B0.out.trans (HB2.out.mono B0.out.size))
                        refine (at_is arcB k 8 _).mono ?_
                        rintro e wz ⟨wv, rfl, hW, hb⟩
                        obtain ⟨gq, gn, gc, rfl⟩ := hW.shape
                        have hkr := KR2.out.keep hb
                        have HF := Lib.hid (wrong_set hkr (fun s => by simp) (fun s => by simp) hW (.slice gq gn gc) (.int .i64 8))
                        have HZ : Hid (Below w.heap.size w ((wz.setCell ⟨w.heap.size + 1, 0, none⟩ (.slice gq gn gc)).setCell ⟨w.heap.size + 1, 1, none⟩ (.int .i64 8))) := Lib.hid ((((BW2.out.trans (hb.mono BW2.out.size))).setCell (by simp only []; omega) _).setCell (by simp only []; omega) _)
                        have hlt := hkr.lt
                        obtain ⟨r0, r1, f0, f1⟩ := hkr.o2
                        clear hkr hW hb
                        go_wp2_with fail
                        rw [HR.out]
                        exact bodyPost_ret (v := .agg #[.slice gq gn gc, .int .i64 8]) (by simp [results, Tryd.results15, go_sem]; go_simp) rfl ⟨_, rfl, HF.out, HZ.out⟩
                      | true =>
                        have CQ := Lib.hid hQ
                        have HN : Hid (firstBad (arcFlt n.v.length) 0 (n.a.take (k + 1)) = fltOK) := Lib.hid (fb_ok hlt HT.out (by rw [eA]; unfold arcFlt; rw [if_neg hF0, if_neg (by simp only []; omega), if_neg hT0, if_neg (by simp only []; omega), if_neg (by simp [hQ])]; rfl))
                        have HOS : Hid (∀ j : Nat, outsC (n.a.take (k + 1)) j = outsC (n.a.take k) j + (if (kf : Int) = j then 1 else 0)) := Lib.hid (fun j => by rw [outsC_snoc hlt, eA])
                        have HIS : Hid (∀ j : Nat, insC (n.a.take (k + 1)) j = insC (n.a.take k) j + (if (kt : Int) = j then 1 else 0)) := Lib.hid (fun j => by rw [insC_snoc hlt, eA])
                        have ob := outsC_bd (n.a.take k) kf
                        have ib := insC_bd (n.a.take k) kt
                        have hlk : (n.a.take k).length ≤ 16384 := by rw [List.length_take]; omega
                        obtain ⟨CO, eCO⟩ : ∃ CO, outsC (n.a.take k) kf = CO := ⟨_, rfl⟩
                        obtain ⟨CI, eCI⟩ : ∃ CI, insC (n.a.take k) kt = CI := ⟨_, rfl⟩
                        rw [eCO] at ob
                        rw [eCI] at ib
                        obtain ⟨o0, o1⟩ := ob
                        obtain ⟨i0', i1'⟩ := ib
                        have o2 : CO ≤ 16384 := by omega
                        have i2' : CI ≤ 16384 := by omega
                        have ECO := Lib.hid eCO
                        have ECI := Lib.hid eCI
                        obtain ⟨m0, m1, m2, -, -, -⟩ := KN2.out.o3
                        clear eA eCO eCI o1 i1' hlk
                        go_wp2_with fail
                        refine (rweight_b Q true _ I4.out.1 I4.out.2 CQ.out).mono ?_
                        rintro e w' ⟨rfl, rfl⟩
                        clear x0 x1 x2 c0 c1 c2 m0 m1 m2
                        obtain ⟨W1, hW1⟩ := named (wr.alloc (.cells #[.int .i64 kf, .int .i64 kt, .int .i64 Q] 70))
                        have KA1 : Hid (Blk W1 wr.heap.size #[.int .i64 kf, .int .i64 kt, .int .i64 Q] 70) := by rw [hW1]; exact Lib.hid (Blk.new _ _ _ _ rfl)
                        have KO1 : Hid (Blk W1 (WV.heap.size + 1) (arrC (fun v => outsC (n.a.take k) v) n.v.length) 3) := by rw [hW1]; exact Lib.hid (KO.out.old _)
                        have KI1 : Hid (Blk W1 (WV.heap.size) (arrC (fun v => insC (n.a.take k) v) n.v.length) 3) := by rw [hW1]; exact Lib.hid (KI.out.old _)
                        have HBW : Hid (Below WV.heap.size WV W1) := by rw [hW1]; exact Lib.hid (HBr.out.trans ((below_new _).mono HBr.out.size))
                        have hz1 : WV.heap.size + 2 ≤ W1.heap.size := by rw [hW1]; simp; omega
                        rw [← hW1]
                        have HW1 := Lib.hid hW1
                        clear hW1 HB2 KN2
                        have oc : W1.cell? ⟨WV.heap.size + 1, kf, none⟩ = some (.int .i64 CO) := (KO1.out.cell kf (arrC_at _ hF1')).trans (by rw [ECO.out])
                        have ofz := KO1.out.free kf
                        obtain ⟨a0, a1, a2, -, -, -⟩ := KA1.out.o3
                        go_upto_region 32 with (fail)
                        clear oc ofz a0 a1 a2
                        obtain ⟨W2, hW2⟩ := named (W1.setCell ⟨WV.heap.size + 1, kf, none⟩ (.int .i64 (CO + 1)))
                        rw [← hW2]
                        have KA2 : Hid (Blk W2 wr.heap.size #[.int .i64 kf, .int .i64 kt, .int .i64 Q] 70) := by rw [hW2]; exact Lib.hid (KA1.out.other _ _ (by omega))
                        have KO2 : Hid (Blk W2 (WV.heap.size + 1) (arrC (fun v => outsC (n.a.take (k + 1)) v) n.v.length) 3) := by
                          rw [hW2, ← ECO.out]
                          have := KO1.out.set kf (.int .i64 (outsC (n.a.take k) kf + 1))
                          rw [arrC_set (g := fun v => outsC (n.a.take (k + 1)) v) hF1' (by rw [HOS.out kf, if_pos rfl]) (fun j hj => by rw [HOS.out j, if_neg (by omega), Int.add_zero])] at this
                          exact Lib.hid this
                        have KI2 : Hid (Blk W2 (WV.heap.size) (arrC (fun v => insC (n.a.take k) v) n.v.length) 3) := by rw [hW2]; exact Lib.hid (KI1.out.other _ _ (by omega))
                        have HBW2 : Hid (Below WV.heap.size WV W2) := by rw [hW2]; exact Lib.hid (HBW.out.setCell (by simp only []; omega) _)
                        have hz2 : WV.heap.size + 2 ≤ W2.heap.size := by rw [hW2]; simpa using hz1
                        have HW2 := Lib.hid hW2
                        clear hW2 KA1 KO1 KI1 HBW
                        have ic : W2.cell? ⟨WV.heap.size, kt, none⟩ = some (.int .i64 CI) := (KI2.out.cell kt (arrC_at _ hT1')).trans (by rw [ECI.out])
                        have ifz := KI2.out.free kt
                        obtain ⟨a0, a1, a2, -, -, -⟩ := KA2.out.o3
                        go_wp2_with fail
                        go_roundw
                        case rel =>
                          refine ⟨k + 1, by omega, by go_num, HN, Lib.hid ?_, Lib.hid (KO2.out.other _ _ (by omega)), Lib.hid (HBW2.out.setCell (by simp only []; omega) _), by simpa using hz2⟩
                          rw [← ECI.out]
                          have := KI2.out.set kt (.int .i64 (insC (n.a.take k) kt + 1))
                          rw [arrC_set (g := fun v => insC (n.a.take (k + 1)) v) hT1' (by rw [HIS.out kt, if_pos rfl]) (fun j hj => by rw [HIS.out j, if_neg (by omega), Int.add_zero])] at this
                          exact this
                        case measure => simp [intOf]; omega
            · have HT3 : Hid (firstBad (arcFlt n.v.length) 0 n.a = fltOK) := Lib.hid (by have := HT.out; rwa [List.take_of_length_le (by omega)] at this)
              have hli : ¬ (k : Int) < (n.a.length : Int) := by omega
              obtain rfl : k = n.a.length := by omega
              have KI' : Hid (Blk wr (WV.heap.size) (arrC (fun v => insC n.a v) n.v.length) 3) := Lib.hid (by have := KI.out; rwa [List.take_length] at this)
              have KO' : Hid (Blk wr (WV.heap.size + 1) (arrC (fun v => outsC n.a v) n.v.length) 3) := Lib.hid (by have := KO.out; rwa [List.take_length] at this)
              clear KI KO
              go_wp2_with fail
              clear c0 c1 c2 hli
              obtain ⟨WE, rfl⟩ : ∃ W, W = wr := ⟨_, rfl⟩
              have HBE := Lib.hid HB0.out
              go_loopw [11, 12] (fun i _ wr => ∃ k : Nat, k ≤ n.v.length ∧ i = .int .i64 k ∧ Hid (firstBad (degFlt n) 0 (n.v.take k) = fltOK) ∧ Hid (Below WE.heap.size WE wr)) (fun i _ _ => n.v.length - (intOf i).toNat)
              case atStart => exact ⟨0, Nat.zero_le _, rfl, Lib.hid rfl, Lib.hid (Below.refl _ _)⟩
              case round =>
                obtain ⟨k, hk, rfl, HT, HBr⟩ := hrel
                have HB1 := Lib.hid (HBE.out.trans (HBr.out.mono HBE.out.size))
                have KNr := Lib.hid (KN.out.keep HB1.out)
                obtain ⟨c0, c1, c2, -, -, -⟩ := KNr.out.o3
                by_cases hlt : k < n.v.length
                · have hli : (k : Int) < (n.v.length : Int) := by omega
                  obtain ⟨vb, vo, rfl, -, -, x2⟩ := (HS.out.below HB1.out).v.at hlt
                  have hvt := (vertFlt_ok (firstBad_each (vertFlt n.t.length) 0 n.v (by rw [HT2.out]; rfl) k hlt)).2.2
                  obtain ⟨kt, ekt⟩ : ∃ kt : Nat, n.v[k].2.2 = kt := ⟨n.v[k].2.2.toNat, by omega⟩
                  rw [ekt] at x2 hvt
                  have hkt : kt < n.t.length := by omega
                  have hti : (kt : Int) < (n.t.length : Int) := by omega
                  obtain ⟨tb, tz, tu, rfl, y0, y1, y2, yt⟩ := (HS.out.below HB1.out).t.at hkt
                  obtain ⟨A, eA⟩ : ∃ A, n.t[kt] = A := ⟨_, rfl⟩
                  rw [eA] at y0 y1 yt
                  obtain ⟨uq, uc, rfl⟩ := yt.shape
                  clear yt
                  have HTB : Hid (n.tab n.v[k].2.2 = A) := Lib.hid (by rw [ekt, NetGood.tab_at kt hkt, eA])
                  have hb1 := World.block_lt_of_cell? wr _ x2
                  have hb2 := World.block_lt_of_cell? wr _ y0
                  have X2 := Lib.hid x2
                  have Y0 := Lib.hid y0
                  have Y1 := Lib.hid y1
                  have Y2 := Lib.hid y2
                  clear x2 y0 y1 y2 eA ekt hvt
                  go_wp2_with fail
                  clear c0 c1 c2
                  have hGS : Grows (fun w' => Below wr.heap.size wr w') := Grows.below wr
                  refine' wp_thenL _ 11 (fun w' => Below wr.heap.size wr w') [[], [0], [], [2], [], [3, 4], [5], [6], [1, 7], [8], []] (Fact.lit _ :: Fact.lit _ :: Fact.lit _ :: Fact.lit _ :: Fact.lit _ :: Fact.lit _ :: Fact.lit _ :: Fact.lit _ :: Fact.lit _ :: Fact.lit _ :: Fact.fresh _ _ :: []) (by kernel_rfl) rfl (by kernel_rfl) (Below.refl _ _).drew ?seqt
                  case' seqt => skip
                  (first | (refine' grow_skip rfl ?wt146 ?put146 ?next146; (case wt146 => rfl)) | (refine' grow_lit rfl ?wt146 ?run146 ?put146 ?next146; (case wt146 => rfl); (case run146 => (intro w' hS H; clear H; (obtain ⟨c0, c1, c2, -, -, -⟩ := (KNr.out.keep hS).o3); (have x2 := keep hS X2.out); (have y0 := keep hS Y0.out); (have y1 := keep hS Y1.out); (have y2 := keep hS Y2.out); clear hS; go_simp; first | done | exact rfl)))); (case put146 => (simp only [Act.put, List.setIfInBounds_toArray, List.set_cons_zero, List.set_cons_succ]; first | done | exact rfl)); (case' next146 => skip)
                  (first | (refine' grow_skip rfl ?wt147 ?put147 ?next147; (case wt147 => rfl)) | (refine' grow_lit rfl ?wt147 ?run147 ?put147 ?next147; (case wt147 => rfl); (case run147 => (intro w' hS H; clear H; (obtain ⟨c0, c1, c2, -, -, -⟩ := (KNr.out.keep hS).o3); (have x2 := keep hS X2.out); (have y0 := keep hS Y0.out); (have y1 := keep hS Y1.out); (have y2 := keep hS Y2.out); clear hS; go_simp; first | done | exact rfl)))); (case put147 => (simp only [Act.put, List.setIfInBounds_toArray, List.set_cons_zero, List.set_cons_succ]; first | done | exact rfl)); (case' next147 => skip)
                  (first | (refine' grow_skip rfl ?wt148 ?put148 ?next148; (case wt148 => rfl)) | (refine' grow_lit rfl ?wt148 ?run148 ?put148 ?next148; (case wt148 => rfl); (case run148 => (intro w' hS H; clear H; (obtain ⟨c0, c1, c2, -, -, -⟩ := (KNr.out.keep hS).o3); (have x2 := keep hS X2.out); (have y0 := keep hS Y0.out); (have y1 := keep hS Y1.out); (have y2 := keep hS Y2.out); clear hS; go_simp; first | done | exact rfl)))); (case put148 => (simp only [Act.put, List.setIfInBounds_toArray, List.set_cons_zero, List.set_cons_succ]; first | done | exact rfl)); (case' next148 => skip)
                  (first | (refine' grow_skip rfl ?wt149 ?put149 ?next149; (case wt149 => rfl)) | (refine' grow_lit rfl ?wt149 ?run149 ?put149 ?next149; (case wt149 => rfl); (case run149 => (intro w' hS H; clear H; (obtain ⟨c0, c1, c2, -, -, -⟩ := (KNr.out.keep hS).o3); (have x2 := keep hS X2.out); (have y0 := keep hS Y0.out); (have y1 := keep hS Y1.out); (have y2 := keep hS Y2.out); clear hS; go_simp; first | done | exact rfl)))); (case put149 => (simp only [Act.put, List.setIfInBounds_toArray, List.set_cons_zero, List.set_cons_succ]; first | done | exact rfl)); (case' next149 => skip)
                  (first | (refine' grow_skip rfl ?wt150 ?put150 ?next150; (case wt150 => rfl)) | (refine' grow_lit rfl ?wt150 ?run150 ?put150 ?next150; (case wt150 => rfl); (case run150 => (intro w' hS H; clear H; (obtain ⟨c0, c1, c2, -, -, -⟩ := (KNr.out.keep hS).o3); (have x2 := keep hS X2.out); (have y0 := keep hS Y0.out); (have y1 := keep hS Y1.out); (have y2 := keep hS Y2.out); clear hS; go_simp; first | done | exact rfl)))); (case put150 => (simp only [Act.put, List.setIfInBounds_toArray, List.set_cons_zero, List.set_cons_succ]; first | done | exact rfl)); (case' next150 => skip)
                  (first | (refine' grow_skip rfl ?wt151 ?put151 ?next151; (case wt151 => rfl)) | (refine' grow_lit rfl ?wt151 ?run151 ?put151 ?next151; (case wt151 => rfl); (case run151 => (intro w' hS H; clear H; (obtain ⟨c0, c1, c2, -, -, -⟩ := (KNr.out.keep hS).o3); (have x2 := keep hS X2.out); (have y0 := keep hS Y0.out); (have y1 := keep hS Y1.out); (have y2 := keep hS Y2.out); clear hS; go_simp; first | done | exact rfl)))); (case put151 => (simp only [Act.put, List.setIfInBounds_toArray, List.set_cons_zero, List.set_cons_succ]; first | done | exact rfl)); (case' next151 => skip)
                  (first | (refine' grow_skip rfl ?wt152 ?put152 ?next152; (case wt152 => rfl)) | (refine' grow_lit rfl ?wt152 ?run152 ?put152 ?next152; (case wt152 => rfl); (case run152 => (intro w' hS H; clear H; (obtain ⟨c0, c1, c2, -, -, -⟩ := (KNr.out.keep hS).o3); (have x2 := keep hS X2.out); (have y0 := keep hS Y0.out); (have y1 := keep hS Y1.out); (have y2 := keep hS Y2.out); clear hS; go_simp; first | done | exact rfl)))); (case put152 => (simp only [Act.put, List.setIfInBounds_toArray, List.set_cons_zero, List.set_cons_succ]; first | done | exact rfl)); (case' next152 => skip)
                  (first | (refine' grow_skip rfl ?wt153 ?put153 ?next153; (case wt153 => rfl)) | (refine' grow_lit rfl ?wt153 ?run153 ?put153 ?next153; (case wt153 => rfl); (case run153 => (intro w' hS H; clear H; (obtain ⟨c0, c1, c2, -, -, -⟩ := (KNr.out.keep hS).o3); (have x2 := keep hS X2.out); (have y0 := keep hS Y0.out); (have y1 := keep hS Y1.out); (have y2 := keep hS Y2.out); clear hS; go_simp; first | done | exact rfl)))); (case put153 => (simp only [Act.put, List.setIfInBounds_toArray, List.set_cons_zero, List.set_cons_succ]; first | done | exact rfl)); (case' next153 => skip)
                  (first | (refine' grow_skip rfl ?wt154 ?put154 ?next154; (case wt154 => rfl)) | (refine' grow_lit rfl ?wt154 ?run154 ?put154 ?next154; (case wt154 => rfl); (case run154 => (intro w' hS H; clear H; (obtain ⟨c0, c1, c2, -, -, -⟩ := (KNr.out.keep hS).o3); (have x2 := keep hS X2.out); (have y0 := keep hS Y0.out); (have y1 := keep hS Y1.out); (have y2 := keep hS Y2.out); clear hS; go_simp; first | done | exact rfl)))); (case put154 => (simp only [Act.put, List.setIfInBounds_toArray, List.set_cons_zero, List.set_cons_succ]; first | done | exact rfl)); (case' next154 => skip)
                  (first | (refine' grow_skip rfl ?wt155 ?put155 ?next155; (case wt155 => rfl)) | (refine' grow_lit rfl ?wt155 ?run155 ?put155 ?next155; (case wt155 => rfl); (case run155 => (intro w' hS H; clear H; (obtain ⟨c0, c1, c2, -, -, -⟩ := (KNr.out.keep hS).o3); (have x2 := keep hS X2.out); (have y0 := keep hS Y0.out); (have y1 := keep hS Y1.out); (have y2 := keep hS Y2.out); clear hS; go_simp; first | done | exact rfl)))); (case put155 => (simp only [Act.put, List.setIfInBounds_toArray, List.set_cons_zero, List.set_cons_succ]; first | done | exact rfl)); (case' next155 => skip)
                  (refine' grow_fresh (p := PtrRTab wr) (hp := fun v w w' h hb => h.below hb) hGS rfl ?wtf10 ?runf10 ?putf10 ?nextf10; (case wtf10 => rfl); (case runf10 => (intro w' hS H; clear H; refine ⟨.pointer (some ⟨w'.heap.size, 0, none⟩), w'.alloc (.cells #[.int .i64 0, .int .i64 0, .slice none 0 0] 60), ?_, ⟨w'.heap.size, rfl, hS.size, Blk.new _ _ _ _ rfl⟩, ⟨w'.heap.size, rfl, Nat.le_refl _, by simp⟩, below_new _⟩; (clear hS; go_simp))); (case putf10 => (intro v; simp only [Act.put, List.setIfInBounds_toArray, List.set_cons_zero, List.set_cons_succ]; first | done | exact rfl)); (case' nextf10 => intro v10))
                  intro w9 hb hk'
                  have h10 : PtrRTab wr v10 w9 := hk' 10 (by decide)
                  obtain ⟨b, rfl, hbb, kb⟩ := h10
                  have hzb := kb.lt
                  obtain ⟨s0, s1, s2, f0, f1, f2⟩ := kb.o3
                  refine wpAny_ready (rs := [11]) (by kernel_rfl) (by simp) (AllReady.cons rfl (fun K hK => ?_) AllReady.nil)
                  go_simp
                  refine hK _ _ ?_
                  clear hK K
                  refine wpAny_done (by kernel_rfl) ?_ _
                  clear s0 s1 s2 f0 f1 f2 hk'
                  have hK9 := ((kb.set 0 (.int .i64 A.1)).set 1 (.int .i64 A.2.1)).set 2 (.slice uq A.2.2.length uc)
                  have hB9 : Below WE.heap.size WE (((w9.setCell ⟨b, 0, none⟩ (.int .i64 A.1)).setCell ⟨b, 1, none⟩ (.int .i64 A.2.1)).setCell ⟨b, 2, none⟩ (.slice uq A.2.2.length uc)) := by
                    have hz := HBr.out.size
                    iterate 3 (refine Below.setCell ?_ (by simp only []; omega) _)
                    exact HBr.out.trans (hb.mono HBr.out.size)
                  obtain ⟨W9, hW9⟩ := named (((w9.setCell ⟨b, 0, none⟩ (.int .i64 A.1)).setCell ⟨b, 1, none⟩ (.int .i64 A.2.1)).setCell ⟨b, 2, none⟩ (.slice uq A.2.2.length uc))
                  rw [← hW9] at hK9 hB9 ⊢
                  have KT : Hid (Blk W9 b #[.int .i64 A.1, .int .i64 A.2.1, .slice uq A.2.2.length uc] 60) := Lib.hid (by simpa using hK9)
                  have HBN := Lib.hid hB9
                  have HB9 := Lib.hid (HBE.out.trans (hB9.mono HBE.out.size))
                  clear hK9 hB9 hW9 hb kb hbb hzb hGS
                  obtain ⟨CI, eCI⟩ : ∃ CI, insC n.a k = CI := ⟨_, rfl⟩
                  obtain ⟨CO, eCO⟩ : ∃ CO, outsC n.a k = CO := ⟨_, rfl⟩
                  have IC : Hid (W9.cell? ⟨WV.heap.size, k, none⟩ = some (.int .i64 CI)) := Lib.hid (((KI'.out.keep HBN.out).cell k (arrC_at _ hlt)).trans (by rw [eCI]))
                  have OC : Hid (W9.cell? ⟨WV.heap.size + 1, k, none⟩ = some (.int .i64 CO)) := Lib.hid (((KO'.out.keep HBN.out).cell k (arrC_at _ hlt)).trans (by rw [eCO]))
                  have ic := IC.out
                  have oc := OC.out
                  have ECI := Lib.hid eCI
                  have ECO := Lib.hid eCO
                  clear eCI eCO
                  by_cases g1 : 16 < CI
                  · have d1 : decide (16 < CI) = true := decide_eq_true g1
                    have HR : Hid (chkN n = ([(vertB, (k : Int))], 4)) := Lib.hid (by
                      have ef : degFlt n k n.v[k] = ([(vertB, (k : Int))], 4) := by unfold degFlt; rw [HTB.out]; rw [ECI.out, if_pos g1]
                      exact (chkN_d HSM.out HT1.out HT2.out HT3.out rfl).trans ((fb_bad hlt HT.out (by rw [ef]; simp)).trans ef))
                    go_wp2_with fail
                    clear ic oc
                    have KR2 := Lib.hid (KR.out.keep HB9.out)
                    have BW2 := Lib.hid (B0.out.trans (HB9.out.mono B0.out.size))
                    refine (at_is vertB k 4 _).mono ?_
                    rintro e wz ⟨wv, rfl, hW, hb⟩
                    obtain ⟨gq, gn, gc, rfl⟩ := hW.shape
                    have hkr := KR2.out.keep hb
                    have HF := Lib.hid (wrong_set hkr (fun s => by simp) (fun s => by simp) hW (.slice gq gn gc) (.int .i64 4))
                    have HZ : Hid (Below w.heap.size w ((wz.setCell ⟨w.heap.size + 1, 0, none⟩ (.slice gq gn gc)).setCell ⟨w.heap.size + 1, 1, none⟩ (.int .i64 4))) := Lib.hid ((((BW2.out.trans (hb.mono BW2.out.size))).setCell (by simp only []; omega) _).setCell (by simp only []; omega) _)
                    have hlt := hkr.lt
                    obtain ⟨r0, r1, f0, f1⟩ := hkr.o2
                    clear hkr hW hb
                    go_wp2_with fail
                    rw [HR.out]
                    exact bodyPost_ret (v := .agg #[.slice gq gn gc, .int .i64 4]) (by simp [results, Tryd.results15, go_sem]; go_simp) rfl ⟨_, rfl, HF.out, HZ.out⟩
                  · have d1 : decide (16 < CI) = false := decide_eq_false g1
                    by_cases g2 : 16 < CO
                    · have d2 : decide (16 < CO) = true := decide_eq_true g2
                      have HR : Hid (chkN n = ([(vertB, (k : Int))], 4)) := Lib.hid (by
                        have ef : degFlt n k n.v[k] = ([(vertB, (k : Int))], 4) := by unfold degFlt; rw [HTB.out]; rw [ECI.out, if_neg (by omega), ECO.out, if_pos g2]
                        exact (chkN_d HSM.out HT1.out HT2.out HT3.out rfl).trans ((fb_bad hlt HT.out (by rw [ef]; simp)).trans ef))
                      go_wp2_with fail
                      clear ic oc
                      have KR2 := Lib.hid (KR.out.keep HB9.out)
                      have BW2 := Lib.hid (B0.out.trans (HB9.out.mono B0.out.size))
                      refine (at_is vertB k 4 _).mono ?_
                      rintro e wz ⟨wv, rfl, hW, hb⟩
                      obtain ⟨gq, gn, gc, rfl⟩ := hW.shape
                      have hkr := KR2.out.keep hb
                      have HF := Lib.hid (wrong_set hkr (fun s => by simp) (fun s => by simp) hW (.slice gq gn gc) (.int .i64 4))
                      have HZ : Hid (Below w.heap.size w ((wz.setCell ⟨w.heap.size + 1, 0, none⟩ (.slice gq gn gc)).setCell ⟨w.heap.size + 1, 1, none⟩ (.int .i64 4))) := Lib.hid ((((BW2.out.trans (hb.mono BW2.out.size))).setCell (by simp only []; omega) _).setCell (by simp only []; omega) _)
                      have hlt := hkr.lt
                      obtain ⟨r0, r1, f0, f1⟩ := hkr.o2
                      clear hkr hW hb
                      go_wp2_with fail
                      rw [HR.out]
                      exact bodyPost_ret (v := .agg #[.slice gq gn gc, .int .i64 4]) (by simp [results, Tryd.results15, go_sem]; go_simp) rfl ⟨_, rfl, HF.out, HZ.out⟩
                    · have d2 : decide (16 < CO) = false := decide_eq_false g2
                      go_wp2_with fail
                      clear ic oc
                      by_cases g3 : CI = A.1
                      · have e3 : (CI == A.1) = true := by simpa using g3
                        by_cases g4 : CO = A.2.1
                        · have e4 : (CO == A.2.1) = true := by simpa using g4
                          have HN : Hid (firstBad (degFlt n) 0 (n.v.take (k + 1)) = fltOK) := Lib.hid (fb_ok hlt HT.out (by unfold degFlt; rw [HTB.out, ECI.out, ECO.out, if_neg (by omega), if_neg (by omega), if_neg (by simpa using g3), if_neg (by simpa using g4)]; rfl))
                          have KT2 : Hid (Blk W9 b #[.int .i64 CI, .int .i64 CO, .slice uq A.2.2.length uc] 60) := Lib.hid (by rw [g3, g4]; exact KT.out)
                          clear g3 g4 e3 e4 KT
                          have KT := KT2
                          clear KT2
                          have hGS : Grows (fun w' => Below W9.heap.size W9 w') := Grows.below W9
                          refine' wp_growL _ (fun w' => Below W9.heap.size W9 w') [[], [], [0, 1], [2], [], [4], [3, 5], [6], [7], [7], [7, 8, 9], [7, 10], [7], [7, 12], [7, 11, 13], [7, 14]] (Fact.lit _ :: Fact.lit _ :: Fact.lit _ :: Fact.lit _ :: Fact.lit _ :: Fact.lit _ :: Fact.lit _ :: Fact.lit _ :: Fact.lit _ :: Fact.lit _ :: Fact.lit _ :: Fact.lit _ :: Fact.lit _ :: Fact.lit _ :: Fact.lit _ :: Fact.lit _ :: []) (by kernel_rfl) rfl (by kernel_rfl) (Below.refl _ _).drew ?seqda
                          case' seqda => skip
                          (first | (refine' grow_skip rfl ?wt156 ?put156 ?next156; (case wt156 => rfl)) | (refine' grow_lit rfl ?wt156 ?run156 ?put156 ?next156; (case wt156 => rfl); (case run156 => (intro w' hS H; clear H; (obtain ⟨q0, q1, q2, -, -, -⟩ := (KT.out.keep hS).o3); (have ic := keep hS IC.out); (have oc := keep hS OC.out); clear hS; go_simp; first | done | exact rfl)))); (case put156 => (simp only [Act.put, List.setIfInBounds_toArray, List.set_cons_zero, List.set_cons_succ]; first | done | exact rfl)); (case' next156 => skip)
                          (first | (refine' grow_skip rfl ?wt157 ?put157 ?next157; (case wt157 => rfl)) | (refine' grow_lit rfl ?wt157 ?run157 ?put157 ?next157; (case wt157 => rfl); (case run157 => (intro w' hS H; clear H; (obtain ⟨q0, q1, q2, -, -, -⟩ := (KT.out.keep hS).o3); (have ic := keep hS IC.out); (have oc := keep hS OC.out); clear hS; go_simp; first | done | exact rfl)))); (case put157 => (simp only [Act.put, List.setIfInBounds_toArray, List.set_cons_zero, List.set_cons_succ]; first | done | exact rfl)); (case' next157 => skip)
                          (first | (refine' grow_skip rfl ?wt158 ?put158 ?next158; (case wt158 => rfl)) | (refine' grow_lit rfl ?wt158 ?run158 ?put158 ?next158; (case wt158 => rfl); (case run158 => (intro w' hS H; clear H; (obtain ⟨q0, q1, q2, -, -, -⟩ := (KT.out.keep hS).o3); (have ic := keep hS IC.out); (have oc := keep hS OC.out); clear hS; go_simp; first | done | exact rfl)))); (case put158 => (simp only [Act.put, List.setIfInBounds_toArray, List.set_cons_zero, List.set_cons_succ]; first | done | exact rfl)); (case' next158 => skip)
                          (first | (refine' grow_skip rfl ?wt159 ?put159 ?next159; (case wt159 => rfl)) | (refine' grow_lit rfl ?wt159 ?run159 ?put159 ?next159; (case wt159 => rfl); (case run159 => (intro w' hS H; clear H; (obtain ⟨q0, q1, q2, -, -, -⟩ := (KT.out.keep hS).o3); (have ic := keep hS IC.out); (have oc := keep hS OC.out); clear hS; go_simp; first | done | exact rfl)))); (case put159 => (simp only [Act.put, List.setIfInBounds_toArray, List.set_cons_zero, List.set_cons_succ]; first | done | exact rfl)); (case' next159 => skip)
                          (first | (refine' grow_skip rfl ?wt160 ?put160 ?next160; (case wt160 => rfl)) | (refine' grow_lit rfl ?wt160 ?run160 ?put160 ?next160; (case wt160 => rfl); (case run160 => (intro w' hS H; clear H; (obtain ⟨q0, q1, q2, -, -, -⟩ := (KT.out.keep hS).o3); (have ic := keep hS IC.out); (have oc := keep hS OC.out); clear hS; go_simp; first | done | exact rfl)))); (case put160 => (simp only [Act.put, List.setIfInBounds_toArray, List.set_cons_zero, List.set_cons_succ]; first | done | exact rfl)); (case' next160 => skip)
                          (first | (refine' grow_skip rfl ?wt161 ?put161 ?next161; (case wt161 => rfl)) | (refine' grow_lit rfl ?wt161 ?run161 ?put161 ?next161; (case wt161 => rfl); (case run161 => (intro w' hS H; clear H; (obtain ⟨q0, q1, q2, -, -, -⟩ := (KT.out.keep hS).o3); (have ic := keep hS IC.out); (have oc := keep hS OC.out); clear hS; go_simp; first | done | exact rfl)))); (case put161 => (simp only [Act.put, List.setIfInBounds_toArray, List.set_cons_zero, List.set_cons_succ]; first | done | exact rfl)); (case' next161 => skip)
                          (first | (refine' grow_skip rfl ?wt162 ?put162 ?next162; (case wt162 => rfl)) | (refine' grow_lit rfl ?wt162 ?run162 ?put162 ?next162; (case wt162 => rfl); (case run162 => (intro w' hS H; clear H; (obtain ⟨q0, q1, q2, -, -, -⟩ := (KT.out.keep hS).o3); (have ic := keep hS IC.out); (have oc := keep hS OC.out); clear hS; go_simp; first | done | exact rfl)))); (case put162 => (simp only [Act.put, List.setIfInBounds_toArray, List.set_cons_zero, List.set_cons_succ]; first | done | exact rfl)); (case' next162 => skip)
                          (first | (refine' grow_skip rfl ?wt163 ?put163 ?next163; (case wt163 => rfl)) | (refine' grow_lit rfl ?wt163 ?run163 ?put163 ?next163; (case wt163 => rfl); (case run163 => (intro w' hS H; clear H; (obtain ⟨q0, q1, q2, -, -, -⟩ := (KT.out.keep hS).o3); (have ic := keep hS IC.out); (have oc := keep hS OC.out); clear hS; go_simp; first | done | exact rfl)))); (case put163 => (simp only [Act.put, List.setIfInBounds_toArray, List.set_cons_zero, List.set_cons_succ]; first | done | exact rfl)); (case' next163 => skip)
                          (first | (refine' grow_skip rfl ?wt164 ?put164 ?next164; (case wt164 => rfl)) | (refine' grow_lit rfl ?wt164 ?run164 ?put164 ?next164; (case wt164 => rfl); (case run164 => (intro w' hS H; clear H; (obtain ⟨q0, q1, q2, -, -, -⟩ := (KT.out.keep hS).o3); (have ic := keep hS IC.out); (have oc := keep hS OC.out); clear hS; go_simp; first | done | exact rfl)))); (case put164 => (simp only [Act.put, List.setIfInBounds_toArray, List.set_cons_zero, List.set_cons_succ]; first | done | exact rfl)); (case' next164 => skip)
                          (first | (refine' grow_skip rfl ?wt165 ?put165 ?next165; (case wt165 => rfl)) | (refine' grow_lit rfl ?wt165 ?run165 ?put165 ?next165; (case wt165 => rfl); (case run165 => (intro w' hS H; clear H; (obtain ⟨q0, q1, q2, -, -, -⟩ := (KT.out.keep hS).o3); (have ic := keep hS IC.out); (have oc := keep hS OC.out); clear hS; go_simp; first | done | exact rfl)))); (case put165 => (simp only [Act.put, List.setIfInBounds_toArray, List.set_cons_zero, List.set_cons_succ]; first | done | exact rfl)); (case' next165 => skip)
                          (first | (refine' grow_skip rfl ?wt166 ?put166 ?next166; (case wt166 => rfl)) | (refine' grow_lit rfl ?wt166 ?run166 ?put166 ?next166; (case wt166 => rfl); (case run166 => (intro w' hS H; clear H; (obtain ⟨q0, q1, q2, -, -, -⟩ := (KT.out.keep hS).o3); (have ic := keep hS IC.out); (have oc := keep hS OC.out); clear hS; go_simp; first | done | exact rfl)))); (case put166 => (simp only [Act.put, List.setIfInBounds_toArray, List.set_cons_zero, List.set_cons_succ]; first | done | exact rfl)); (case' next166 => skip)
                          (first | (refine' grow_skip rfl ?wt167 ?put167 ?next167; (case wt167 => rfl)) | (refine' grow_lit rfl ?wt167 ?run167 ?put167 ?next167; (case wt167 => rfl); (case run167 => (intro w' hS H; clear H; (obtain ⟨q0, q1, q2, -, -, -⟩ := (KT.out.keep hS).o3); (have ic := keep hS IC.out); (have oc := keep hS OC.out); clear hS; go_simp; first | done | exact rfl)))); (case put167 => (simp only [Act.put, List.setIfInBounds_toArray, List.set_cons_zero, List.set_cons_succ]; first | done | exact rfl)); (case' next167 => skip)
                          (first | (refine' grow_skip rfl ?wt168 ?put168 ?next168; (case wt168 => rfl)) | (refine' grow_lit rfl ?wt168 ?run168 ?put168 ?next168; (case wt168 => rfl); (case run168 => (intro w' hS H; clear H; (obtain ⟨q0, q1, q2, -, -, -⟩ := (KT.out.keep hS).o3); (have ic := keep hS IC.out); (have oc := keep hS OC.out); clear hS; go_simp; first | done | exact rfl)))); (case put168 => (simp only [Act.put, List.setIfInBounds_toArray, List.set_cons_zero, List.set_cons_succ]; first | done | exact rfl)); (case' next168 => skip)
                          (first | (refine' grow_skip rfl ?wt169 ?put169 ?next169; (case wt169 => rfl)) | (refine' grow_lit rfl ?wt169 ?run169 ?put169 ?next169; (case wt169 => rfl); (case run169 => (intro w' hS H; clear H; (obtain ⟨q0, q1, q2, -, -, -⟩ := (KT.out.keep hS).o3); (have ic := keep hS IC.out); (have oc := keep hS OC.out); clear hS; go_simp; first | done | exact rfl)))); (case put169 => (simp only [Act.put, List.setIfInBounds_toArray, List.set_cons_zero, List.set_cons_succ]; first | done | exact rfl)); (case' next169 => skip)
                          (first | (refine' grow_skip rfl ?wt170 ?put170 ?next170; (case wt170 => rfl)) | (refine' grow_lit rfl ?wt170 ?run170 ?put170 ?next170; (case wt170 => rfl); (case run170 => (intro w' hS H; clear H; (obtain ⟨q0, q1, q2, -, -, -⟩ := (KT.out.keep hS).o3); (have ic := keep hS IC.out); (have oc := keep hS OC.out); clear hS; go_simp; first | done | exact rfl)))); (case put170 => (simp only [Act.put, List.setIfInBounds_toArray, List.set_cons_zero, List.set_cons_succ]; first | done | exact rfl)); (case' next170 => skip)
                          (first | (refine' grow_skip rfl ?wt171 ?put171 ?next171; (case wt171 => rfl)) | (refine' grow_lit rfl ?wt171 ?run171 ?put171 ?next171; (case wt171 => rfl); (case run171 => (intro w' hS H; clear H; (obtain ⟨q0, q1, q2, -, -, -⟩ := (KT.out.keep hS).o3); (have ic := keep hS IC.out); (have oc := keep hS OC.out); clear hS; go_simp; first | done | exact rfl)))); (case put171 => (simp only [Act.put, List.setIfInBounds_toArray, List.set_cons_zero, List.set_cons_succ]; first | done | exact rfl)); (case' next171 => skip)
                          intro w10 hb _
                          have HBN2 := Lib.hid (HBN.out.trans (hb.mono HBN.out.size))
                          have HB9' := Lib.hid (HB9.out.trans (hb.mono HB9.out.size))
                          clear hb hGS HB9
                          have HB9 := HB9'
                          clear HB9'
                          go_wp2_with fail
                          go_roundw
                          case rel => exact ⟨k + 1, by omega, by go_num, HN, HBN2⟩
                          case measure => simp [intOf]; omega
                        · have e4 : (CO == A.2.1) = false := by simpa using g4
                          have G3 := Lib.hid g3
                          have KT2 : Hid (Blk W9 b #[.int .i64 CI, .int .i64 A.2.1, .slice uq A.2.2.length uc] 60) := Lib.hid (by rw [g3]; exact KT.out)
                          clear g3 e3 KT
                          have KT := KT2
                          clear KT2
                          have HR : Hid (chkN n = ([(vertB, (k : Int))], 9)) := Lib.hid (by
                            have ef : degFlt n k n.v[k] = ([(vertB, (k : Int))], 9) := by unfold degFlt; rw [HTB.out]; rw [ECI.out, if_neg (by omega), ECO.out, if_neg (by omega), if_neg (by simpa using G3.out), if_pos g4]
                            exact (chkN_d HSM.out HT1.out HT2.out HT3.out rfl).trans ((fb_bad hlt HT.out (by rw [ef]; simp)).trans ef))
                          have hGS : Grows (fun w' => Below W9.heap.size W9 w') := Grows.below W9
                          refine' wp_growL _ (fun w' => Below W9.heap.size W9 w') [[], [], [0, 1], [2], [], [4], [3, 5], [6], [7], [7], [7, 8, 9], [7, 10], [7], [7, 12], [7, 11, 13], [7, 14]] (Fact.lit _ :: Fact.lit _ :: Fact.lit _ :: Fact.lit _ :: Fact.lit _ :: Fact.lit _ :: Fact.lit _ :: Fact.lit _ :: Fact.lit _ :: Fact.lit _ :: Fact.lit _ :: Fact.lit _ :: Fact.lit _ :: Fact.lit _ :: Fact.lit _ :: Fact.lit _ :: []) (by kernel_rfl) rfl (by kernel_rfl) (Below.refl _ _).drew ?seqdb
                          case' seqdb => skip
                          (first | (refine' grow_skip rfl ?wt172 ?put172 ?next172; (case wt172 => rfl)) | (refine' grow_lit rfl ?wt172 ?run172 ?put172 ?next172; (case wt172 => rfl); (case run172 => (intro w' hS H; clear H; (obtain ⟨q0, q1, q2, -, -, -⟩ := (KT.out.keep hS).o3); (have ic := keep hS IC.out); (have oc := keep hS OC.out); clear hS; go_simp; first | done | exact rfl)))); (case put172 => (simp only [Act.put, List.setIfInBounds_toArray, List.set_cons_zero, List.set_cons_succ]; first | done | exact rfl)); (case' next172 => skip)
                          (first | (refine' grow_skip rfl ?wt173 ?put173 ?next173; (case wt173 => rfl)) | (refine' grow_lit rfl ?wt173 ?run173 ?put173 ?next173; (case wt173 => rfl); (case run173 => (intro w' hS H; clear H; (obtain ⟨q0, q1, q2, -, -, -⟩ := (KT.out.keep hS).o3); (have ic := keep hS IC.out); (have oc := keep hS OC.out); clear hS; go_simp; first | done | exact rfl)))); (case put173 => (simp only [Act.put, List.setIfInBounds_toArray, List.set_cons_zero, List.set_cons_succ]; first | done | exact rfl)); (case' next173 => skip)
                          (first | (refine' grow_skip rfl ?wt174 ?put174 ?next174; (case wt174 => rfl)) | (refine' grow_lit rfl ?wt174 ?run174 ?put174 ?next174; (case wt174 => rfl); (case run174 => (intro w' hS H; clear H; (obtain ⟨q0, q1, q2, -, -, -⟩ := (KT.out.keep hS).o3); (have ic := keep hS IC.out); (have oc := keep hS OC.out); clear hS; go_simp; first | done | exact rfl)))); (case put174 => (simp only [Act.put, List.setIfInBounds_toArray, List.set_cons_zero, List.set_cons_succ]; first | done | exact rfl)); (case' next174 => skip)
                          (first | (refine' grow_skip rfl ?wt175 ?put175 ?next175; (case wt175 => rfl)) | (refine' grow_lit rfl ?wt175 ?run175 ?put175 ?next175; (case wt175 => rfl); (case run175 => (intro w' hS H; clear H; (obtain ⟨q0, q1, q2, -, -, -⟩ := (KT.out.keep hS).o3); (have ic := keep hS IC.out); (have oc := keep hS OC.out); clear hS; go_simp; first | done | exact rfl)))); (case put175 => (simp only [Act.put, List.setIfInBounds_toArray, List.set_cons_zero, List.set_cons_succ]; first | done | exact rfl)); (case' next175 => skip)
                          (first | (refine' grow_skip rfl ?wt176 ?put176 ?next176; (case wt176 => rfl)) | (refine' grow_lit rfl ?wt176 ?run176 ?put176 ?next176; (case wt176 => rfl); (case run176 => (intro w' hS H; clear H; (obtain ⟨q0, q1, q2, -, -, -⟩ := (KT.out.keep hS).o3); (have ic := keep hS IC.out); (have oc := keep hS OC.out); clear hS; go_simp; first | done | exact rfl)))); (case put176 => (simp only [Act.put, List.setIfInBounds_toArray, List.set_cons_zero, List.set_cons_succ]; first | done | exact rfl)); (case' next176 => skip)
                          (first | (refine' grow_skip rfl ?wt177 ?put177 ?next177; (case wt177 => rfl)) | (refine' grow_lit rfl ?wt177 ?run177 ?put177 ?next177; (case wt177 => rfl); (case run177 => (intro w' hS H; clear H; (obtain ⟨q0, q1, q2, -, -, -⟩ := (KT.out.keep hS).o3); (have ic := keep hS IC.out); (have oc := keep hS OC.out); clear hS; go_simp; first | done | exact rfl)))); (case put177 => (simp only [Act.put, List.setIfInBounds_toArray, List.set_cons_zero, List.set_cons_succ]; first | done | exact rfl)); (case' next177 => skip)
                          (first | (refine' grow_skip rfl ?wt178 ?put178 ?next178; (case wt178 => rfl)) | (refine' grow_lit rfl ?wt178 ?run178 ?put178 ?next178; (case wt178 => rfl); (case run178 => (intro w' hS H; clear H; (obtain ⟨q0, q1, q2, -, -, -⟩ := (KT.out.keep hS).o3); (have ic := keep hS IC.out); (have oc := keep hS OC.out); clear hS; go_simp; first | done | exact rfl)))); (case put178 => (simp only [Act.put, List.setIfInBounds_toArray, List.set_cons_zero, List.set_cons_succ]; first | done | exact rfl)); (case' next178 => skip)
                          (first | (refine' grow_skip rfl ?wt179 ?put179 ?next179; (case wt179 => rfl)) | (refine' grow_lit rfl ?wt179 ?run179 ?put179 ?next179; (case wt179 => rfl); (case run179 => (intro w' hS H; clear H; (obtain ⟨q0, q1, q2, -, -, -⟩ := (KT.out.keep hS).o3); (have ic := keep hS IC.out); (have oc := keep hS OC.out); clear hS; go_simp; first | done | exact rfl)))); (case put179 => (simp only [Act.put, List.setIfInBounds_toArray, List.set_cons_zero, List.set_cons_succ]; first | done | exact rfl)); (case' next179 => skip)
                          (first | (refine' grow_skip rfl ?wt180 ?put180 ?next180; (case wt180 => rfl)) | (refine' grow_lit rfl ?wt180 ?run180 ?put180 ?next180; (case wt180 => rfl); (case run180 => (intro w' hS H; clear H; (obtain ⟨q0, q1, q2, -, -, -⟩ := (KT.out.keep hS).o3); (have ic := keep hS IC.out); (have oc := keep hS OC.out); clear hS; go_simp; first | done | exact rfl)))); (case put180 => (simp only [Act.put, List.setIfInBounds_toArray, List.set_cons_zero, List.set_cons_succ]; first | done | exact rfl)); (case' next180 => skip)
                          (first | (refine' grow_skip rfl ?wt181 ?put181 ?next181; (case wt181 => rfl)) | (refine' grow_lit rfl ?wt181 ?run181 ?put181 ?next181; (case wt181 => rfl); (case run181 => (intro w' hS H; clear H; (obtain ⟨q0, q1, q2, -, -, -⟩ := (KT.out.keep hS).o3); (have ic := keep hS IC.out); (have oc := keep hS OC.out); clear hS; go_simp; first | done | exact rfl)))); (case put181 => (simp only [Act.put, List.setIfInBounds_toArray, List.set_cons_zero, List.set_cons_succ]; first | done | exact rfl)); (case' next181 => skip)
                          (first | (refine' grow_skip rfl ?wt182 ?put182 ?next182; (case wt182 => rfl)) | (refine' grow_lit rfl ?wt182 ?run182 ?put182 ?next182; (case wt182 => rfl); (case run182 => (intro w' hS H; clear H; (obtain ⟨q0, q1, q2, -, -, -⟩ := (KT.out.keep hS).o3); (have ic := keep hS IC.out); (have oc := keep hS OC.out); clear hS; go_simp; first | done | exact rfl)))); (case put182 => (simp only [Act.put, List.setIfInBounds_toArray, List.set_cons_zero, List.set_cons_succ]; first | done | exact rfl)); (case' next182 => skip)
                          (first | (refine' grow_skip rfl ?wt183 ?put183 ?next183; (case wt183 => rfl)) | (refine' grow_lit rfl ?wt183 ?run183 ?put183 ?next183; (case wt183 => rfl); (case run183 => (intro w' hS H; clear H; (obtain ⟨q0, q1, q2, -, -, -⟩ := (KT.out.keep hS).o3); (have ic := keep hS IC.out); (have oc := keep hS OC.out); clear hS; go_simp; first | done | exact rfl)))); (case put183 => (simp only [Act.put, List.setIfInBounds_toArray, List.set_cons_zero, List.set_cons_succ]; first | done | exact rfl)); (case' next183 => skip)
                          (first | (refine' grow_skip rfl ?wt184 ?put184 ?next184; (case wt184 => rfl)) | (refine' grow_lit rfl ?wt184 ?run184 ?put184 ?next184; (case wt184 => rfl); (case run184 => (intro w' hS H; clear H; (obtain ⟨q0, q1, q2, -, -, -⟩ := (KT.out.keep hS).o3); (have ic := keep hS IC.out); (have oc := keep hS OC.out); clear hS; go_simp; first | done | exact rfl)))); (case put184 => (simp only [Act.put, List.setIfInBounds_toArray, List.set_cons_zero, List.set_cons_succ]; first | done | exact rfl)); (case' next184 => skip)
                          (first | (refine' grow_skip rfl ?wt185 ?put185 ?next185; (case wt185 => rfl)) | (refine' grow_lit rfl ?wt185 ?run185 ?put185 ?next185; (case wt185 => rfl); (case run185 => (intro w' hS H; clear H; (obtain ⟨q0, q1, q2, -, -, -⟩ := (KT.out.keep hS).o3); (have ic := keep hS IC.out); (have oc := keep hS OC.out); clear hS; go_simp; first | done | exact rfl)))); (case put185 => (simp only [Act.put, List.setIfInBounds_toArray, List.set_cons_zero, List.set_cons_succ]; first | done | exact rfl)); (case' next185 => skip)
                          (first | (refine' grow_skip rfl ?wt186 ?put186 ?next186; (case wt186 => rfl)) | (refine' grow_lit rfl ?wt186 ?run186 ?put186 ?next186; (case wt186 => rfl); (case run186 => (intro w' hS H; clear H; (obtain ⟨q0, q1, q2, -, -, -⟩ := (KT.out.keep hS).o3); (have ic := keep hS IC.out); (have oc := keep hS OC.out); clear hS; go_simp; first | done | exact rfl)))); (case put186 => (simp only [Act.put, List.setIfInBounds_toArray, List.set_cons_zero, List.set_cons_succ]; first | done | exact rfl)); (case' next186 => skip)
                          (first | (refine' grow_skip rfl ?wt187 ?put187 ?next187; (case wt187 => rfl)) | (refine' grow_lit rfl ?wt187 ?run187 ?put187 ?next187; (case wt187 => rfl); (case run187 => (intro w' hS H; clear H; (obtain ⟨q0, q1, q2, -, -, -⟩ := (KT.out.keep hS).o3); (have ic := keep hS IC.out); (have oc := keep hS OC.out); clear hS; go_simp; first | done | exact rfl)))); (case put187 => (simp only [Act.put, List.setIfInBounds_toArray, List.set_cons_zero, List.set_cons_succ]; first | done | exact rfl)); (case' next187 => skip)
                          intro w10 hb _
                          have HBN2 := Lib.hid (HBN.out.trans (hb.mono HBN.out.size))
                          have HB9' := Lib.hid (HB9.out.trans (hb.mono HB9.out.size))
                          clear hb hGS HB9
                          have HB9 := HB9'
                          clear HB9'
                          go_wp2_with fail
                          have KR2 := Lib.hid (KR.out.keep HB9.out)
                          have BW2 := Lib.hid (B0.out.trans (HB9.out.mono B0.out.size))
                          refine (at_is vertB k 9 _).mono ?_
                          rintro e wz ⟨wv, rfl, hW, hb⟩
                          obtain ⟨gq, gn, gc, rfl⟩ := hW.shape
                          have hkr := KR2.out.keep hb
                          have HF := Lib.hid (wrong_set hkr (fun s => by simp) (fun s => by simp) hW (.slice gq gn gc) (.int .i64 9))
                          have HZ : Hid (Below w.heap.size w ((wz.setCell ⟨w.heap.size + 1, 0, none⟩ (.slice gq gn gc)).setCell ⟨w.heap.size + 1, 1, none⟩ (.int .i64 9))) := Lib.hid ((((BW2.out.trans (hb.mono BW2.out.size))).setCell (by simp only []; omega) _).setCell (by simp only []; omega) _)
                          have hlt := hkr.lt
                          obtain ⟨r0, r1, f0, f1⟩ := hkr.o2
                          clear hkr hW hb
                          go_wp2_with fail
                          rw [HR.out]
                          exact bodyPost_ret (v := .agg #[.slice gq gn gc, .int .i64 9]) (by simp [results, Tryd.results15, go_sem]; go_simp) rfl ⟨_, rfl, HF.out, HZ.out⟩
                      · have e3 : (CI == A.1) = false := by simpa using g3
                        have e5 : (CI != A.1) = true := by simpa using g3
                        have HR : Hid (chkN n = ([(vertB, (k : Int))], 9)) := Lib.hid (by
                          have ef : degFlt n k n.v[k] = ([(vertB, (k : Int))], 9) := by unfold degFlt; rw [HTB.out]; rw [ECI.out, if_neg (by omega), ECO.out, if_neg (by omega), if_pos g3]
                          exact (chkN_d HSM.out HT1.out HT2.out HT3.out rfl).trans ((fb_bad hlt HT.out (by rw [ef]; simp)).trans ef))
                        have hGS : Grows (fun w' => Below W9.heap.size W9 w') := Grows.below W9
                        refine' wp_growL _ (fun w' => Below W9.heap.size W9 w') [[], [], [0, 1], [2], [], [4], [3, 5], [6], [7], [7], [7, 8, 9], [7, 10], [7], [7, 12], [7, 11, 13], [7, 14]] (Fact.lit _ :: Fact.lit _ :: Fact.lit _ :: Fact.lit _ :: Fact.lit _ :: Fact.lit _ :: Fact.lit _ :: Fact.lit _ :: Fact.lit _ :: Fact.lit _ :: Fact.lit _ :: Fact.lit _ :: Fact.lit _ :: Fact.lit _ :: Fact.lit _ :: Fact.lit _ :: []) (by kernel_rfl) rfl (by kernel_rfl) (Below.refl _ _).drew ?seqdc
                        case' seqdc => skip
                        (first | (refine' grow_skip rfl ?wt188 ?put188 ?next188; (case wt188 => rfl)) | (refine' grow_lit rfl ?wt188 ?run188 ?put188 ?next188; (case wt188 => rfl); (case run188 => (intro w' hS H; clear H; (obtain ⟨q0, q1, q2, -, -, -⟩ := (KT.out.keep hS).o3); (have ic := keep hS IC.out); (have oc := keep hS OC.out); clear hS; go_simp; first | done | exact rfl)))); (case put188 => (simp only [Act.put, List.setIfInBounds_toArray, List.set_cons_zero, List.set_cons_succ]; first | done | exact rfl)); (case' next188 => skip)
                        (first | (refine' grow_skip rfl ?wt189 ?put189 ?next189; (case wt189 => rfl)) | (refine' grow_lit rfl ?wt189 ?run189 ?put189 ?next189; (case wt189 => rfl); (case run189 => (intro w' hS H; clear H; (obtain ⟨q0, q1, q2, -, -, -⟩ := (KT.out.keep hS).o3); (have ic := keep hS IC.out); (have oc := keep hS OC.out); clear hS; go_simp; first | done | exact rfl)))); (case put189 => (simp only [Act.put, List.setIfInBounds_toArray, List.set_cons_zero, List.set_cons_succ]; first | done | exact rfl)); (case' next189 => skip)
                        (first | (refine' grow_skip rfl ?wt190 ?put190 ?next190; (case wt190 => rfl)) | (refine' grow_lit rfl ?wt190 ?run190 ?put190 ?next190; (case wt190 => rfl); (case run190 => (intro w' hS H; clear H; (obtain ⟨q0, q1, q2, -, -, -⟩ := (KT.out.keep hS).o3); (have ic := keep hS IC.out); (have oc := keep hS OC.out); clear hS; go_simp; first | done | exact rfl)))); (case put190 => (simp only [Act.put, List.setIfInBounds_toArray, List.set_cons_zero, List.set_cons_succ]; first | done | exact rfl)); (case' next190 => skip)
                        (first | (refine' grow_skip rfl ?wt191 ?put191 ?next191; (case wt191 => rfl)) | (refine' grow_lit rfl ?wt191 ?run191 ?put191 ?next191; (case wt191 => rfl); (case run191 => (intro w' hS H; clear H; (obtain ⟨q0, q1, q2, -, -, -⟩ := (KT.out.keep hS).o3); (have ic := keep hS IC.out); (have oc := keep hS OC.out); clear hS; go_simp; first | done | exact rfl)))); (case put191 => (simp only [Act.put, List.setIfInBounds_toArray, List.set_cons_zero, List.set_cons_succ]; first | done | exact rfl)); (case' next191 => skip)
                        (first | (refine' grow_skip rfl ?wt192 ?put192 ?next192; (case wt192 => rfl)) | (refine' grow_lit rfl ?wt192 ?run192 ?put192 ?next192; (case wt192 => rfl); (case run192 => (intro w' hS H; clear H; (obtain ⟨q0, q1, q2, -, -, -⟩ := (KT.out.keep hS).o3); (have ic := keep hS IC.out); (have oc := keep hS OC.out); clear hS; go_simp; first | done | exact rfl)))); (case put192 => (simp only [Act.put, List.setIfInBounds_toArray, List.set_cons_zero, List.set_cons_succ]; first | done | exact rfl)); (case' next192 => skip)
                        (first | (refine' grow_skip rfl ?wt193 ?put193 ?next193; (case wt193 => rfl)) | (refine' grow_lit rfl ?wt193 ?run193 ?put193 ?next193; (case wt193 => rfl); (case run193 => (intro w' hS H; clear H; (obtain ⟨q0, q1, q2, -, -, -⟩ := (KT.out.keep hS).o3); (have ic := keep hS IC.out); (have oc := keep hS OC.out); clear hS; go_simp; first | done | exact rfl)))); (case put193 => (simp only [Act.put, List.setIfInBounds_toArray, List.set_cons_zero, List.set_cons_succ]; first | done | exact rfl)); (case' next193 => skip)
                        (first | (refine' grow_skip rfl ?wt194 ?put194 ?next194; (case wt194 => rfl)) | (refine' grow_lit rfl ?wt194 ?run194 ?put194 ?next194; (case wt194 => rfl); (case run194 => (intro w' hS H; clear H; (obtain ⟨q0, q1, q2, -, -, -⟩ := (KT.out.keep hS).o3); (have ic := keep hS IC.out); (have oc := keep hS OC.out); clear hS; go_simp; first | done | exact rfl)))); (case put194 => (simp only [Act.put, List.setIfInBounds_toArray, List.set_cons_zero, List.set_cons_succ]; first | done | exact rfl)); (case' next194 => skip)
                        (first | (refine' grow_skip rfl ?wt195 ?put195 ?next195; (case wt195 => rfl)) | (refine' grow_lit rfl ?wt195 ?run195 ?put195 ?next195; (case wt195 => rfl); (case run195 => (intro w' hS H; clear H; (obtain ⟨q0, q1, q2, -, -, -⟩ := (KT.out.keep hS).o3); (have ic := keep hS IC.out); (have oc := keep hS OC.out); clear hS; go_simp; first | done | exact rfl)))); (case put195 => (simp only [Act.put, List.setIfInBounds_toArray, List.set_cons_zero, List.set_cons_succ]; first | done | exact rfl)); (case' next195 => skip)
                        (first | (refine' grow_skip rfl ?wt196 ?put196 ?next196; (case wt196 => rfl)) | (refine' grow_lit rfl ?wt196 ?run196 ?put196 ?next196; (case wt196 => rfl); (case run196 => (intro w' hS H; clear H; (obtain ⟨q0, q1, q2, -, -, -⟩ := (KT.out.keep hS).o3); (have ic := keep hS IC.out); (have oc := keep hS OC.out); clear hS; go_simp; first | done | exact rfl)))); (case put196 => (simp only [Act.put, List.setIfInBounds_toArray, List.set_cons_zero, List.set_cons_succ]; first | done | exact rfl)); (case' next196 => skip)
                        (first | (refine' grow_skip rfl ?wt197 ?put197 ?next197; (case wt197 => rfl)) | (refine' grow_lit rfl ?wt197 ?run197 ?put197 ?next197; (case wt197 => rfl); (case run197 => (intro w' hS H; clear H; (obtain ⟨q0, q1, q2, -, -, -⟩ := (KT.out.keep hS).o3); (have ic := keep hS IC.out); (have oc := keep hS OC.out); clear hS; go_simp; first | done | exact rfl)))); (case put197 => (simp only [Act.put, List.setIfInBounds_toArray, List.set_cons_zero, List.set_cons_succ]; first | done | exact rfl)); (case' next197 => skip)
                        (first | (refine' grow_skip rfl ?wt198 ?put198 ?next198; (case wt198 => rfl)) | (refine' grow_lit rfl ?wt198 ?run198 ?put198 ?next198; (case wt198 => rfl); (case run198 => (intro w' hS H; clear H; (obtain ⟨q0, q1, q2, -, -, -⟩ := (KT.out.keep hS).o3); (have ic := keep hS IC.out); (have oc := keep hS OC.out); clear hS; go_simp; first | done | exact rfl)))); (case put198 => (simp only [Act.put, List.setIfInBounds_toArray, List.set_cons_zero, List.set_cons_succ]; first | done | exact rfl)); (case' next198 => skip)
                        (first | (refine' grow_skip rfl ?wt199 ?put199 ?next199; (case wt199 => rfl)) | (refine' grow_lit rfl ?wt199 ?run199 ?put199 ?next199; (case wt199 => rfl); (case run199 => (intro w' hS H; clear H; (obtain ⟨q0, q1, q2, -, -, -⟩ := (KT.out.keep hS).o3); (have ic := keep hS IC.out); (have oc := keep hS OC.out); clear hS; go_simp; first | done | exact rfl)))); (case put199 => (simp only [Act.put, List.setIfInBounds_toArray, List.set_cons_zero, List.set_cons_succ]; first | done | exact rfl)); (case' next199 => skip)
                        (first | (refine' grow_skip rfl ?wt200 ?put200 ?next200; (case wt200 => rfl)) | (refine' grow_lit rfl ?wt200 ?run200 ?put200 ?next200; (case wt200 => rfl); (case run200 => (intro w' hS H; clear H; (obtain ⟨q0, q1, q2, -, -, -⟩ := (KT.out.keep hS).o3); (have ic := keep hS IC.out); (have oc := keep hS OC.out); clear hS; go_simp; first | done | exact rfl)))); (case put200 => (simp only [Act.put, List.setIfInBounds_toArray, List.set_cons_zero, List.set_cons_succ]; first | done | exact rfl)); (case' next200 => skip)
                        (first | (refine' grow_skip rfl ?wt201 ?put201 ?next201; (case wt201 => rfl)) | (refine' grow_lit rfl ?wt201 ?run201 ?put201 ?next201; (case wt201 => rfl); (case run201 => (intro w' hS H; clear H; (obtain ⟨q0, q1, q2, -, -, -⟩ := (KT.out.keep hS).o3); (have ic := keep hS IC.out); (have oc := keep hS OC.out); clear hS; go_simp; first | done | exact rfl)))); (case put201 => (simp only [Act.put, List.setIfInBounds_toArray, List.set_cons_zero, List.set_cons_succ]; first | done | exact rfl)); (case' next201 => skip)
                        (first | (refine' grow_skip rfl ?wt202 ?put202 ?next202; (case wt202 => rfl)) | (refine' grow_lit rfl ?wt202 ?run202 ?put202 ?next202; (case wt202 => rfl); (case run202 => (intro w' hS H; clear H; (obtain ⟨q0, q1, q2, -, -, -⟩ := (KT.out.keep hS).o3); (have ic := keep hS IC.out); (have oc := keep hS OC.out); clear hS; go_simp; first | done | exact rfl)))); (case put202 => (simp only [Act.put, List.setIfInBounds_toArray, List.set_cons_zero, List.set_cons_succ]; first | done | exact rfl)); (case' next202 => skip)
                        (first | (refine' grow_skip rfl ?wt203 ?put203 ?next203; (case wt203 => rfl)) | (refine' grow_lit rfl ?wt203 ?run203 ?put203 ?next203; (case wt203 => rfl); (case run203 => (intro w' hS H; clear H; (obtain ⟨q0, q1, q2, -, -, -⟩ := (KT.out.keep hS).o3); (have ic := keep hS IC.out); (have oc := keep hS OC.out); clear hS; go_simp; first | done | exact rfl)))); (case put203 => (simp only [Act.put, List.setIfInBounds_toArray, List.set_cons_zero, List.set_cons_succ]; first | done | exact rfl)); (case' next203 => skip)
                        intro w10 hb _
                        have HBN2 := Lib.hid (HBN.out.trans (hb.mono HBN.out.size))
                        have HB9' := Lib.hid (HB9.out.trans (hb.mono HB9.out.size))
                        clear hb hGS HB9
                        have HB9 := HB9'
                        clear HB9'
                        go_wp2_with fail
                        have KR2 := Lib.hid (KR.out.keep HB9.out)
                        have BW2 := Lib.hid (B0.out.trans (HB9.out.mono B0.out.size))
                        refine (at_is vertB k 9 _).mono ?_
                        rintro e wz ⟨wv, rfl, hW, hb⟩
                        obtain ⟨gq, gn, gc, rfl⟩ := hW.shape
                        have hkr := KR2.out.keep hb
                        have HF := Lib.hid (wrong_set hkr (fun s => by simp) (fun s => by simp) hW (.slice gq gn gc) (.int .i64 9))
                        have HZ : Hid (Below w.heap.size w ((wz.setCell ⟨w.heap.size + 1, 0, none⟩ (.slice gq gn gc)).setCell ⟨w.heap.size + 1, 1, none⟩ (.int .i64 9))) := Lib.hid ((((BW2.out.trans (hb.mono BW2.out.size))).setCell (by simp only []; omega) _).setCell (by simp only []; omega) _)
                        have hlt := hkr.lt
                        obtain ⟨r0, r1, f0, f1⟩ := hkr.o2
                        clear hkr hW hb
                        go_wp2_with fail
                        rw [HR.out]
                        exact bodyPost_ret (v := .agg #[.slice gq gn gc, .int .i64 9]) (by simp [results, Tryd.results15, go_sem]; go_simp) rfl ⟨_, rfl, HF.out, HZ.out⟩
                · have HR : Hid (chkN n = fltOK) := Lib.hid (chkN_d HSM.out HT1.out HT2.out HT3.out (by have := HT.out; rwa [List.take_of_length_le (by omega)] at this))
                  have hli : ¬ (k : Int) < (n.v.length : Int) := by omega
                  have hkr := KR.out.keep HB1.out
                  have HZ : Hid (Below w.heap.size w ((wr.setCell ⟨w.heap.size + 1, 0, none⟩ (.slice none 0 0)).setCell ⟨w.heap.size + 1, 1, none⟩ (.int .i64 0))) := Lib.hid (((B0.out.trans (HB1.out.mono B0.out.size)).setCell (by simp only []; omega) _).setCell (by simp only []; omega) _)
                  have hlt' := hkr.lt
                  obtain ⟨r0, r1, f0, f1⟩ := hkr.o2
                  clear hkr
                  go_wp2_with fail
                  rw [HR.out]
                  exact bodyPost_ret (v := .agg #[.slice none 0 0, .int .i64 0]) (by simp [results, Tryd.results15, go_sem]; go_simp) rfl ⟨_, rfl, ⟨_, rfl, Or.inl ⟨rfl, rfl⟩⟩, HZ.out⟩

/-- What the document's Check tells of any net. -/
theorem rchecknet_any (n : NetD) (vq aq tq : Option Addr) (vc ac tc : Nat) (w : World) (h : NetS w n vq aq tq vc ac tc) (hin : InNet n) : Calls Tryd.prog 15 #[netVal n vq aq tq vc ac tc] w (WPost (chkN n).1 (chkN n).2 w) := by
  by_cases h0 : 4096 < n.v.length
  · exact rchk_long0 n vq aq tq vc ac tc w h0
  by_cases h1 : 16384 < n.a.length
  · exact rchk_long1 n vq aq tq vc ac tc w h0 h1
  by_cases h2 : 256 < n.t.length
  · exact rchk_long2 n vq aq tq vc ac tc w h0 h1 h2
  · exact rchk_main n vq aq tq vc ac tc w h ⟨by omega, by omega, by omega⟩ hin

end Go.Proofs.YtbdompngabokgaaDoor
