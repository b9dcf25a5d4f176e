/-
  The program's heap: on the way up, on the way down.
-/
import Derived.Test.YtmbeelakkiodaaaHpB
namespace Go.Proofs.Ytmbeelakkiodaaa
open Go.RowKit

/-- A heap at p, of row and places whatever, but the same slices; the keys as told; what is none of its blocks stays. -/
def SiftPost (S : Nat → Prop) (w : World) (p N : Nat) (m : Nat → Option Int) (rv pv : Value) (e : Ending) (w' : World) : Prop :=
  e = .returned (.tuple #[]) ∧ ∃ R P, HpS S w' p R P rv pv ∧ Hpp N R P m ∧ Keep (fun b => ¬ S b) w w'
/-- The way up at a round's head. -/
def RiseRel (S : Nat → Prop) (w : World) (p N : Nat) (m : Nat → Option Int) (rv pv : Value) (it : It) (v : Value) (wr : World) : Prop :=
  ∃ (a : Nat) (R : List It) (P : List Int), v = .int .i64 a ∧ HpS S wr p R P rv pv ∧ Up N R P m a it ∧ Keep (fun b => ¬ S b) w wr ∧ Blk wr w.heap.size #[.int .i64 it.1, .int .i64 it.2] 56 ∧ w.heap.size < wr.heap.size
def SinkRel (S : Nat → Prop) (w : World) (p N : Nat) (m : Nat → Option Int) (rv pv : Value) (it : It) (v : Value) (wr : World) : Prop :=
  ∃ (a : Nat) (R : List It) (P : List Int), v = .int .i64 a ∧ HpS S wr p R P rv pv ∧ Down N R P m a it ∧ Keep (fun b => ¬ S b) w wr ∧ Blk wr w.heap.size #[.int .i64 it.1, .int .i64 it.2] 56 ∧ w.heap.size < wr.heap.size ∧ R.length ≤ 16384
section
variable {S : Nat → Prop} {w : World} {p : Nat} {R : List It} {P : List Int} {rv pv : Value} {N : Nat} {m : Nat → Option Int}
theorem Up.pl {a : Nat} {it : It} (h : Up N R P m a it) : P.length = N := by have := h.con.pl; rw [List.length_set] at this; exact this
theorem Up.rl {a : Nat} {it : It} (h : Up N R P m a it) : R.length ≤ N := by have := h.con.len; rw [List.length_set] at this; exact this
theorem Up.key {a : Nat} {it : It} (h : Up N R P m a it) : it.1 < N := (h.con.row a it h.at).1
theorem Up.key' {a i : Nat} {it x : It} (h : Up N R P m a it) (hi : i ≠ a) (hx : R[i]? = some x) : x.1 < N := (h.con.row i x (by rw [get_set_ne hi]; exact hx)).1
theorem Down.pl {a : Nat} {it : It} (h : Down N R P m a it) : P.length = N := by have := h.con.pl; rw [List.length_set] at this; exact this
theorem Down.rl {a : Nat} {it : It} (h : Down N R P m a it) : R.length ≤ N := by have := h.con.len; rw [List.length_set] at this; exact this
theorem Down.key {a : Nat} {it : It} (h : Down N R P m a it) : it.1 < N := (h.con.row a it h.at).1
theorem Down.key' {a i : Nat} {it x : It} (h : Down N R P m a it) (hi : i ≠ a) (hx : R[i]? = some x) : x.1 < N := (h.con.row i x (by rw [get_set_ne hi]; exact hx)).1
theorem nS_of (hS : ∀ b, S b → b < w.heap.size) : ¬ S w.heap.size := fun h => by have := hS _ h; omega

set_option maxHeartbeats 4000000 in
set_option maxRecDepth 100000 in
theorem hrise0 (hS : ∀ b, S b → b < w.heap.size) (h : HpS S w p R P rv pv) (a0 : Nat) (it : It) (hu : Up N R P m a0 it) (hN : N ≤ 16384) : Calls Try.prog 23 #[hp p, .int .i64 a0, itV it] w (SiftPost S w p N m rv pv) := by
  have HSS := Lib.hid hS
  have HH := Lib.hid h
  have HU0 := Lib.hid hu
  clear h hS hu
  go_enter Try.func23, Try.ntmps23
  go_wp2_with fail
  go_loopw [1] (fun v wr => RiseRel S w p N m rv pv it v wr) (fun v _ => (intOf v).toNat)
  case atStart =>
    have hb : Below w.heap.size w (w.alloc (.cells #[.int .i64 it.1, .int .i64 it.2] 56)) := (Below.refl _ _).alloc (Nat.le_refl _) _
    exact ⟨a0, R, P, rfl, HH.out.old hb, HU0.out, Keep.of hb, Blk.new _ _ _ _ rfl, by simp⟩
  case round =>
    obtain ⟨a, R1, P1, rfl, h1, hu, hk, hbx, hlt⟩ := hrel
    clear HH HU0
    obtain ⟨⟨q, c, rfl, -⟩, q', c', rfl⟩ := h1.shape
    have hnS : ¬ S w.heap.size := nS_of HSS.out
    have hlen := hu.rl
    obtain ⟨wo, rfl⟩ : ∃ wo : World, wo = wr := ⟨_, rfl⟩
    obtain ⟨b0, b1, -, -⟩ := hbx.o2
    obtain ⟨c0, c1, -, -⟩ := h1.k.o2
    rcases Nat.eq_zero_or_pos a with h0 | h0
    · have HD := Lib.hid (hu.done (Or.inl h0))
      have HU := Lib.hid hu
      have H1 := Lib.hid h1
      have HK1 := Lib.hid hk
      have d0 : decide (0 < a) = false := by simp; omega
      clear hu h1 hk hbx h0
      go_wp2_with fail
      refine (hlay_any H1.out a HU.out.len it (by rw [HU.out.pl]; exact HU.out.key)).mono ?_
      rintro e w2 ⟨rfl, hs2, hk2⟩
      have HS2 := Lib.hid hs2
      have HK2 := Lib.hid hk2
      clear hs2 hk2
      go_wp2_with fail
      exact bodyPost_end (v := .tuple #[]) (by simp [results, Try.results23, go_sem]) rfl ⟨rfl, _, _, HS2.out, HD.out, HK1.out.trans HK2.out⟩
    · have hup : (a - 1) / 2 < R1.length := by have := hu.len; omega
      obtain ⟨J, hJ⟩ : ∃ J, (a - 1) / 2 = J := ⟨_, rfl⟩
      obtain ⟨U, hUx⟩ : ∃ U, R1[(a - 1) / 2]? = some U := ⟨_, List.getElem?_eq_getElem hup⟩
      have hUk : U.1 < N := hu.key' (by omega) hUx
      have HST := Lib.hid (hu.step h0 hUx)
      have HDN : Hid (¬ ahd it U → Hpp N (R1.set a it) (P1.set it.1 a) m) := Lib.hid (fun hn => hu.done (Or.inr ⟨U, hUx, hn⟩))
      rw [hJ] at hUx hup
      have hJ' := Lib.hid hJ
      obtain ⟨g, rfl, x0, x1, hg⟩ := h1.at hUx
      have hJi : (J : Int) < (R1.length : Int) := by omega
      have hq : ((a : Int) - 1) / 2 = (J : Int) := by omega
      have hq' : ((a : Int) - 1).tdiv 2 = (J : Int) := by rw [Int.tdiv_eq_ediv_of_nonneg (by omega)]; exact hq
      have h1a : (1 : Int) ≤ a := by omega
      have h0a : (0 : Int) < a := by omega
      have hJa : J < a := by omega
      have HU := Lib.hid hu
      have H1 := Lib.hid h1
      have HK1 := Lib.hid hk
      have HB := Lib.hid hbx
      have C0 := Lib.hid c0
      have X0 := Lib.hid x0
      have X1 := Lib.hid x1
      have B0 := Lib.hid b0
      have B1 := Lib.hid b1
      clear hu h1 hk hbx x0 x1 hUx hJ
      cases hB : ahdB it U with
      | false =>
        have HBB := Lib.hid hB
        clear hB
        have HD := Lib.hid (HDN.out (ahd_not HBB.out))
        clear HDN HST c0 c1 b0 b1
        go_wp2_with fail
        have hGS : Grows (fun w' => Below wo.heap.size wo w') := Grows.below wo
        refine' wp_growL _ (fun w' => Below wo.heap.size wo w') [[], [], [1], [2], [3], [], [4, 5], [6], [0, 7], [8]] (Fact.lit _ :: Fact.lit _ :: Fact.lit _ :: Fact.lit _ :: Fact.lit _ :: Fact.lit _ :: Fact.lit _ :: Fact.lit _ :: Fact.lit _ :: Fact.lit _ :: []) (by kernel_rfl) rfl (by kernel_rfl) (Below.refl _ _).drew ?seqr3f
        case' seqr3f => skip
        iterate 8 ((first | (apply grow_skip; (case hf => rfl); (case hw => rfl)) | (apply grow_lit; (case hf => rfl); (case hw => rfl); (case hrun => (intro w' hS H; clear H; (have y0 := keep hS C0.out); (have y1 := keep hS X0.out); (have y2 := keep hS X1.out); (have y3 := keep hS B0.out); (have y4 := keep hS B1.out); clear hS; go_simp; first | done | exact rfl)))); (case hc => (simp only [Act.put, List.setIfInBounds_toArray, List.set_cons_zero, List.set_cons_succ]; first | done | exact rfl)); (try (case hj => rfl)))
        (refine' grow_call (u := .bool false) rfl Try.func28 (by kernel_rfl) rfl hGS rfl ?wt1 ?run1 ?put1 ?next1; (case wt1 => rfl); (case run1 => (intro w' hS H; exact (ahead_any it U w').mono (fun e w2 h => ⟨h.1.trans (by rw [HBB.out]), h.2⟩))); (case put1 => (simp only [Act.put, List.setIfInBounds_toArray, List.set_cons_zero, List.set_cons_succ]; first | done | exact rfl)); (case' next1 => skip))
        iterate 1 ((first | (apply grow_skip; (case hf => rfl); (case hw => rfl)) | (apply grow_lit; (case hf => rfl); (case hw => rfl); (case hrun => (intro w' hS H; clear H; (have y0 := keep hS C0.out); (have y1 := keep hS X0.out); (have y2 := keep hS X1.out); (have y3 := keep hS B0.out); (have y4 := keep hS B1.out); clear hS; go_simp; first | done | exact rfl)))); (case hc => (simp only [Act.put, List.setIfInBounds_toArray, List.set_cons_zero, List.set_cons_succ]; first | done | exact rfl)); (try (case hj => rfl)))
        intro w1 hb _
        have H2 := Lib.hid (H1.out.old hb)
        have HK3 := Lib.hid (HK1.out.trans (Keep.of hb))
        obtain ⟨b0, b1, -, -⟩ := (HB.out.keep hb).o2
        clear hb hGS
        go_wp2_with fail
        refine (hlay_any H2.out a HU.out.len it (by rw [HU.out.pl]; exact HU.out.key)).mono ?_
        rintro e w2 ⟨rfl, hs2, hk2⟩
        have HS2 := Lib.hid hs2
        have HK2 := Lib.hid hk2
        clear hs2 hk2
        go_wp2_with fail
        exact bodyPost_end (v := .tuple #[]) (by simp [results, Try.results23, go_sem]) rfl ⟨rfl, _, _, HS2.out, HD.out, HK3.out.trans HK2.out⟩
      | true =>
        have HBB := Lib.hid hB
        clear hB
        have HST2 := Lib.hid (show Up N (R1.set a U) (P1.set U.1 a) m J it from by rw [← hJ'.out]; exact HST.out (ahd_of HBB.out))
        clear HDN HST c0 c1 b0 b1
        go_wp2_with fail
        have hGS : Grows (fun w' => Below wo.heap.size wo w') := Grows.below wo
        refine' wp_growL _ (fun w' => Below wo.heap.size wo w') [[], [], [1], [2], [3], [], [4, 5], [6], [0, 7], [8]] (Fact.lit _ :: Fact.lit _ :: Fact.lit _ :: Fact.lit _ :: Fact.lit _ :: Fact.lit _ :: Fact.lit _ :: Fact.lit _ :: Fact.lit _ :: Fact.lit _ :: []) (by kernel_rfl) rfl (by kernel_rfl) (Below.refl _ _).drew ?seqr3t
        case' seqr3t => skip
        iterate 8 ((first | (apply grow_skip; (case hf => rfl); (case hw => rfl)) | (apply grow_lit; (case hf => rfl); (case hw => rfl); (case hrun => (intro w' hS H; clear H; (have y0 := keep hS C0.out); (have y1 := keep hS X0.out); (have y2 := keep hS X1.out); (have y3 := keep hS B0.out); (have y4 := keep hS B1.out); clear hS; go_simp; first | done | exact rfl)))); (case hc => (simp only [Act.put, List.setIfInBounds_toArray, List.set_cons_zero, List.set_cons_succ]; first | done | exact rfl)); (try (case hj => rfl)))
        (refine' grow_call (u := .bool true) rfl Try.func28 (by kernel_rfl) rfl hGS rfl ?wt2 ?run2 ?put2 ?next2; (case wt2 => rfl); (case run2 => (intro w' hS H; exact (ahead_any it U w').mono (fun e w2 h => ⟨h.1.trans (by rw [HBB.out]), h.2⟩))); (case put2 => (simp only [Act.put, List.setIfInBounds_toArray, List.set_cons_zero, List.set_cons_succ]; first | done | exact rfl)); (case' next2 => skip))
        iterate 1 ((first | (apply grow_skip; (case hf => rfl); (case hw => rfl)) | (apply grow_lit; (case hf => rfl); (case hw => rfl); (case hrun => (intro w' hS H; clear H; (have y0 := keep hS C0.out); (have y1 := keep hS X0.out); (have y2 := keep hS X1.out); (have y3 := keep hS B0.out); (have y4 := keep hS B1.out); clear hS; go_simp; first | done | exact rfl)))); (case hc => (simp only [Act.put, List.setIfInBounds_toArray, List.set_cons_zero, List.set_cons_succ]; first | done | exact rfl)); (try (case hj => rfl)))
        intro w1 hb _
        have H2 := Lib.hid (H1.out.old hb)
        have HK3 := Lib.hid (HK1.out.trans (Keep.of hb))
        obtain ⟨b0, b1, -, -⟩ := (HB.out.keep hb).o2
        have x0 := keep hb X0.out
        have x1 := keep hb X1.out
        obtain ⟨c0, c1, -, -⟩ := H2.out.k.o2
        have HZ := Lib.hid (Nat.lt_of_lt_of_le hlt hb.size)
        have HB2 := Lib.hid (HB.out.keep hb)
        clear hb hGS
        go_wp2_with fail
        refine (hlay_any H2.out a HU.out.len U (by rw [HU.out.pl]; exact hUk)).mono ?_
        rintro e w2 ⟨rfl, hs2, hk2⟩
        have HR : Hid (RiseRel S w p N m (.slice (some ⟨g, 0, none⟩) R1.length c) (.slice q' P1.length c') it (.int .i64 J) w2) := Lib.hid ⟨J, _, _, rfl, hs2, HST2.out, HK3.out.trans hk2, hk2.blk HB2.out hnS, Nat.lt_of_lt_of_le HZ.out hk2.size⟩
        clear hs2 hk2 x0 x1 c0 c1 b0 b1
        go_wp2_with fail
        go_roundw
        case rel => exact HR.out
        case measure => simp [intOf]; omega

set_option maxHeartbeats 4000000 in
set_option maxRecDepth 100000 in
theorem hsink0 (hS : ∀ b, S b → b < w.heap.size) (h : HpS S w p R P rv pv) (a0 : Nat) (it : It) (hu : Down N R P m a0 it) (hN : N ≤ 16384) : Calls Try.prog 24 #[hp p, .int .i64 a0, itV it] w (SiftPost S w p N m rv pv) := by
  have HSS := Lib.hid hS
  have HH := Lib.hid h
  have HU0 := Lib.hid hu
  clear h hS hu
  go_enter Try.func24, Try.ntmps24
  go_wp2_with fail
  go_loopw [1] (fun v wr => SinkRel S w p N m rv pv it v wr) (fun v _ => 16384 - (intOf v).toNat)
  case atStart =>
    have hb : Below w.heap.size w (w.alloc (.cells #[.int .i64 it.1, .int .i64 it.2] 56)) := (Below.refl _ _).alloc (Nat.le_refl _) _
    exact ⟨a0, R, P, rfl, HH.out.old hb, HU0.out, Keep.of hb, Blk.new _ _ _ _ rfl, by simp, Nat.le_trans HU0.out.rl hN⟩
  case round =>
    obtain ⟨a, R1, P1, rfl, h1, hu, hk, hbx, hlt, hR⟩ := hrel
    clear HH HU0
    obtain ⟨⟨q, c, rfl, -⟩, q', c', rfl⟩ := h1.shape
    have hnS : ¬ S w.heap.size := nS_of HSS.out
    have hal := hu.len
    obtain ⟨wo, rfl⟩ : ∃ wo : World, wo = wr := ⟨_, rfl⟩
    by_cases hd : 2 * a + 1 < R1.length
    · obtain ⟨d, D, hda, hD, hmin, hcall⟩ := hbelow_some h1 a hR hd
      have hdl := lt_of_get hD
      have hDk : D.1 < N := hu.key' (by omega) hD
      have HST := Lib.hid (hu.step (q := d) (by omega) (by omega) hD)
      have HDN : Hid (¬ ahd D it → Hpp N (R1.set a it) (P1.set it.1 a) m) := Lib.hid (fun hn => hu.done fun i x h0 hi hx => nahd_trans (hmin i x h0 hi hx) hn)
      have HMIN := Lib.hid hmin
      obtain ⟨g, rfl, x0, x1, hg⟩ := h1.at hD
      have hdi : (d : Int) < (R1.length : Int) := by omega
      have hdn : ((d : Int) == -1) = false := by simp
      have hgt : a < d := by omega
      have hd0 : 0 < d := by omega
      have hd16 : d < 16384 := by omega
      have HU := Lib.hid hu
      have H1 := Lib.hid h1
      have HK1 := Lib.hid hk
      have HB := Lib.hid hbx
      have HC := Lib.hid hcall
      have X0 := Lib.hid x0
      have X1 := Lib.hid x1
      clear hu h1 hk hbx x0 x1 hda hD hmin hcall hd
      cases hB : ahdB D it with
      | false =>
        have HBB := Lib.hid hB
        clear hB
        have HD := Lib.hid (HDN.out (ahd_not HBB.out))
        clear HDN HST HMIN
        go_wp2_with fail
        refine HC.out.mono ?_
        rintro e w0 ⟨rfl, hb0⟩
        have H0 := Lib.hid (H1.out.old hb0)
        obtain ⟨c0, c1, -, -⟩ := H0.out.k.o2
        have C0 := Lib.hid c0
        have Z0 := Lib.hid (keep hb0 X0.out)
        have Z1 := Lib.hid (keep hb0 X1.out)
        have HB0 := Lib.hid (HB.out.keep hb0)
        obtain ⟨b0, b1, -, -⟩ := HB0.out.o2
        have B0 := Lib.hid b0
        have B1 := Lib.hid b1
        have HK0 := Lib.hid (HK1.out.trans (Keep.of hb0))
        clear hb0 c0 c1 b0 b1
        go_wp2_with fail
        have hGS : Grows (fun w' => Below w0.heap.size w0 w') := Grows.below w0
        refine' wp_growL _ (fun w' => Below w0.heap.size w0 w') [[], [0], [1], [2], [2, 3], [2, 4], [2, 5], [2], [2, 6, 7], [2, 8], [2], [2, 9, 10], [2, 11], [2, 12]] (Fact.lit _ :: Fact.lit _ :: Fact.lit _ :: Fact.lit _ :: Fact.lit _ :: Fact.lit _ :: Fact.lit _ :: Fact.lit _ :: Fact.lit _ :: Fact.lit _ :: Fact.lit _ :: Fact.lit _ :: Fact.lit _ :: Fact.lit _ :: []) (by kernel_rfl) rfl (by kernel_rfl) (Below.refl _ _).drew ?seqs2f
        case' seqs2f => skip
        iterate 11 ((first | (apply grow_skip; (case hf => rfl); (case hw => rfl)) | (apply grow_lit; (case hf => rfl); (case hw => rfl); (case hrun => (intro w' hS H; clear H; (have y0 := keep hS C0.out); (have y1 := keep hS Z0.out); (have y2 := keep hS Z1.out); (have y3 := keep hS B0.out); (have y4 := keep hS B1.out); clear hS; go_simp; first | done | exact rfl)))); (case hc => (simp only [Act.put, List.setIfInBounds_toArray, List.set_cons_zero, List.set_cons_succ]; first | done | exact rfl)); (try (case hj => rfl)))
        (refine' grow_call (u := .bool false) rfl Try.func28 (by kernel_rfl) rfl hGS rfl ?wt3 ?run3 ?put3 ?next3; (case wt3 => rfl); (case run3 => (intro w' hS H; exact (ahead_any D it w').mono (fun e w2 h => ⟨h.1.trans (by rw [HBB.out]), h.2⟩))); (case put3 => (simp only [Act.put, List.setIfInBounds_toArray, List.set_cons_zero, List.set_cons_succ]; first | done | exact rfl)); (case' next3 => skip))
        iterate 2 ((first | (apply grow_skip; (case hf => rfl); (case hw => rfl)) | (apply grow_lit; (case hf => rfl); (case hw => rfl); (case hrun => (intro w' hS H; clear H; (have y0 := keep hS C0.out); (have y1 := keep hS Z0.out); (have y2 := keep hS Z1.out); (have y3 := keep hS B0.out); (have y4 := keep hS B1.out); clear hS; go_simp; first | done | exact rfl)))); (case hc => (simp only [Act.put, List.setIfInBounds_toArray, List.set_cons_zero, List.set_cons_succ]; first | done | exact rfl)); (try (case hj => rfl)))
        intro w1 hb _
        have H2 := Lib.hid (H0.out.old hb)
        have HK3 := Lib.hid (HK0.out.trans (Keep.of hb))
        obtain ⟨b0, b1, -, -⟩ := (HB0.out.keep hb).o2
        clear hb hGS
        go_wp2_with fail
        refine (hlay_any H2.out a HU.out.len it (by rw [HU.out.pl]; exact HU.out.key)).mono ?_
        rintro e w2 ⟨rfl, hs2, hk2⟩
        have HS2 := Lib.hid hs2
        have HK2 := Lib.hid hk2
        clear hs2 hk2
        go_wp2_with fail
        exact bodyPost_end (v := .tuple #[]) (by simp [results, Try.results24, go_sem]) rfl ⟨rfl, _, _, HS2.out, HD.out, HK3.out.trans HK2.out⟩
      | true =>
        have HBB := Lib.hid hB
        clear hB
        have HST2 := Lib.hid (HST.out (ahd_of HBB.out) HMIN.out)
        clear HDN HST HMIN
        go_wp2_with fail
        refine HC.out.mono ?_
        rintro e w0 ⟨rfl, hb0⟩
        have H0 := Lib.hid (H1.out.old hb0)
        obtain ⟨c0, c1, -, -⟩ := H0.out.k.o2
        have C0 := Lib.hid c0
        have Z0 := Lib.hid (keep hb0 X0.out)
        have Z1 := Lib.hid (keep hb0 X1.out)
        have HB0 := Lib.hid (HB.out.keep hb0)
        obtain ⟨b0, b1, -, -⟩ := HB0.out.o2
        have B0 := Lib.hid b0
        have B1 := Lib.hid b1
        have HK0 := Lib.hid (HK1.out.trans (Keep.of hb0))
        have HLT := Lib.hid (Nat.lt_of_lt_of_le hlt hb0.size)
        clear hb0 c0 c1 b0 b1 hlt
        go_wp2_with fail
        have hGS : Grows (fun w' => Below w0.heap.size w0 w') := Grows.below w0
        refine' wp_growL _ (fun w' => Below w0.heap.size w0 w') [[], [0], [1], [2], [2, 3], [2, 4], [2, 5], [2], [2, 6, 7], [2, 8], [2], [2, 9, 10], [2, 11], [2, 12]] (Fact.lit _ :: Fact.lit _ :: Fact.lit _ :: Fact.lit _ :: Fact.lit _ :: Fact.lit _ :: Fact.lit _ :: Fact.lit _ :: Fact.lit _ :: Fact.lit _ :: Fact.lit _ :: Fact.lit _ :: Fact.lit _ :: Fact.lit _ :: []) (by kernel_rfl) rfl (by kernel_rfl) (Below.refl _ _).drew ?seqs2t
        case' seqs2t => skip
        iterate 11 ((first | (apply grow_skip; (case hf => rfl); (case hw => rfl)) | (apply grow_lit; (case hf => rfl); (case hw => rfl); (case hrun => (intro w' hS H; clear H; (have y0 := keep hS C0.out); (have y1 := keep hS Z0.out); (have y2 := keep hS Z1.out); (have y3 := keep hS B0.out); (have y4 := keep hS B1.out); clear hS; go_simp; first | done | exact rfl)))); (case hc => (simp only [Act.put, List.setIfInBounds_toArray, List.set_cons_zero, List.set_cons_succ]; first | done | exact rfl)); (try (case hj => rfl)))
        (refine' grow_call (u := .bool true) rfl Try.func28 (by kernel_rfl) rfl hGS rfl ?wt4 ?run4 ?put4 ?next4; (case wt4 => rfl); (case run4 => (intro w' hS H; exact (ahead_any D it w').mono (fun e w2 h => ⟨h.1.trans (by rw [HBB.out]), h.2⟩))); (case put4 => (simp only [Act.put, List.setIfInBounds_toArray, List.set_cons_zero, List.set_cons_succ]; first | done | exact rfl)); (case' next4 => skip))
        iterate 2 ((first | (apply grow_skip; (case hf => rfl); (case hw => rfl)) | (apply grow_lit; (case hf => rfl); (case hw => rfl); (case hrun => (intro w' hS H; clear H; (have y0 := keep hS C0.out); (have y1 := keep hS Z0.out); (have y2 := keep hS Z1.out); (have y3 := keep hS B0.out); (have y4 := keep hS B1.out); clear hS; go_simp; first | done | exact rfl)))); (case hc => (simp only [Act.put, List.setIfInBounds_toArray, List.set_cons_zero, List.set_cons_succ]; first | done | exact rfl)); (try (case hj => rfl)))
        intro w1 hb _
        have H2 := Lib.hid (H0.out.old hb)
        have HK3 := Lib.hid (HK0.out.trans (Keep.of hb))
        have HB2 := Lib.hid (HB0.out.keep hb)
        have x0 := keep hb Z0.out
        have x1 := keep hb Z1.out
        obtain ⟨c0, c1, -, -⟩ := H2.out.k.o2
        have HZ := Lib.hid (Nat.lt_of_lt_of_le HLT.out hb.size)
        clear hb hGS
        go_wp2_with fail
        refine (hlay_any H2.out a HU.out.len D (by rw [HU.out.pl]; exact hDk)).mono ?_
        rintro e w2 ⟨rfl, hs2, hk2⟩
        have HR : Hid (SinkRel S w p N m (.slice (some ⟨g, 0, none⟩) R1.length c) (.slice q' P1.length c') it (.int .i64 d) w2) := Lib.hid ⟨d, _, _, rfl, hs2, HST2.out, HK3.out.trans hk2, hk2.blk HB2.out hnS, Nat.lt_of_lt_of_le HZ.out hk2.size, by rw [List.length_set]; exact hR⟩
        clear hs2 hk2 x0 x1 c0 c1
        go_wp2_with fail
        go_roundw
        case rel => exact HR.out
        case measure => simp [intOf]; omega
    · have HD := Lib.hid (hu.done fun i x h0 hi hx => absurd (lt_of_get hx) (by omega))
      have hd' : R1.length ≤ 2 * a + 1 := by omega
      have HC := Lib.hid (hbelow_none h1 a hd' (by omega))
      have HU := Lib.hid hu
      have H1 := Lib.hid h1
      have HK1 := Lib.hid hk
      obtain ⟨b0, b1, -, -⟩ := hbx.o2
      clear hu h1 hk hbx hd hd'
      go_wp2_with fail
      refine HC.out.mono ?_
      rintro e w0 ⟨rfl, rfl⟩
      go_wp2_with fail
      go_quiet (fail)
      go_wp2_with fail
      refine (hlay_any (H1.out.old (below_drewN (Below.refl _ _) _)) a HU.out.len it (by rw [HU.out.pl]; exact HU.out.key)).mono ?_
      rintro e w2 ⟨rfl, hs2, hk2⟩
      have HS2 := Lib.hid hs2
      have HK2 := Lib.hid hk2
      clear hs2 hk2
      go_wp2_with fail
      exact bodyPost_end (v := .tuple #[]) (by simp [results, Try.results24, go_sem]) rfl ⟨rfl, _, _, HS2.out, HD.out, (HK1.out.trans (Keep.of (below_drewN (Below.refl _ _) _))).trans HK2.out⟩

theorem NotS.mono {S : Nat → Prop} {w w' : World} (h : Keep (fun b => ¬ (S b ∧ b < w.heap.size)) w w') : Keep (fun b => ¬ S b) w w' := h.mono fun _ hb hc => hb hc.1
theorem SiftPost.all {S : Nat → Prop} {w : World} {p N : Nat} {m : Nat → Option Int} {rv pv : Value} {e : Ending} {w' : World} (h : SiftPost (fun b => S b ∧ b < w.heap.size) w p N m rv pv e w') : SiftPost S w p N m rv pv e w' := by
  obtain ⟨he, R, P, h1, h2, h3⟩ := h
  exact ⟨he, R, P, h1.mono fun _ _ h => h.1, h2, NotS.mono h3⟩
theorem hrise_any (h : HpS S w p R P rv pv) (a0 : Nat) (it : It) (hu : Up N R P m a0 it) (hN : N ≤ 16384) : Calls Try.prog 23 #[hp p, .int .i64 a0, itV it] w (SiftPost S w p N m rv pv) :=
  (hrise0 (S := fun b => S b ∧ b < w.heap.size) (fun _ h => h.2) (h.mono fun _ h1 h2 => ⟨h2, h1⟩) a0 it hu hN).mono fun _ _ h => h.all
theorem hsink_any (h : HpS S w p R P rv pv) (a0 : Nat) (it : It) (hu : Down N R P m a0 it) (hN : N ≤ 16384) : Calls Try.prog 24 #[hp p, .int .i64 a0, itV it] w (SiftPost S w p N m rv pv) :=
  (hsink0 (S := fun b => S b ∧ b < w.heap.size) (fun _ h => h.2) (h.mono fun _ h1 h2 => ⟨h2, h1⟩) a0 it hu hN).mono fun _ _ h => h.all
end

end Go.Proofs.Ytmbeelakkiodaaa
