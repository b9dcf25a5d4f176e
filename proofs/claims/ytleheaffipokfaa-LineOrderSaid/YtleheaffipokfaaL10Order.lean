/-
  PROVED: each point stands in the row once, none behind one of a greater key, or of the same key and a greater place; moved all alike the row stays. For all points, every way, however far.
-/
import Derived.Test.YtleheaffipokfaaLnG
import Derived.Test.YtleheaffipokfaaLnIn
namespace Go.Proofs.Ytleheaffipokfaa
open Go.ChangeShapes Go.WideShapes Go.ChangeAt Go.RowKit Go.Sort

theorem wfi16 {a : Int} (h : (Lit.int .i16 a).wf = true) : -32768 ≤ a ∧ a ≤ 32767 := by
  simpa [Lit.wf, IntKind.min, IntKind.max, IntKind.signed, IntKind.bits] using h
def movL (dx dy : Int) (l : List (Int × Int)) : List (Int × Int) := l.map fun x => (x.1 + dx, x.2 + dy)
theorem movL_len (dx dy : Int) (l : List (Int × Int)) : (movL dx dy l).length = l.length := by simp [movL]
theorem movL_snoc {dx dy : Int} {l : List (Int × Int)} {k : Nat} {x y : Int} (hk : k < l.length) (h : l[k] = (x, y)) : movL dx dy (l.take (k + 1)) = movL dx dy (l.take k) ++ [(x + dx, y + dy)] := by
  rw [List.take_succ_eq_append_getElem hk, h]
  simp [movL]
def ORel (w : World) (dx dy : Int) (l : List (Int × Int)) (v iv : Value) (wr : World) : Prop := ∃ k : Nat, k ≤ l.length ∧ iv = .int .i64 k ∧ PT w (movL dx dy (l.take k)) v [] (.slice none 0 0) wr
theorem PT.shape1 {w0 w : World} {l1 l2 : List (Int × Int)} {v1 v2 : Value} (h : PT w0 l1 v1 l2 v2 w) {n : Nat} (hn : l1.length = n) : ∃ q c, v1 = .slice q n c := by
  obtain ⟨q, c, e⟩ := own_shape h.r1
  exact ⟨q, c, by rw [e, hn]⟩
theorem zN_take (o : List Nat) (k : Nat) : (zN o).take k = zN (o.take k) := by simp [zN, List.map_take]
theorem ord_alone {l : List (Int × Int)} {d : Int} {o : List Nat} (h : OrdL l d o) {k A : Nat} (hA : o[k]? = some A) : placeL ((zN o).take k) A < 0 := by
  obtain ⟨h1, h2⟩ := List.getElem?_eq_some_iff.1 hA
  refine Int.not_le.1 fun hn => ?_
  have := (placeL_mem _ _).1 hn
  rw [zN_take] at this
  obtain ⟨y, hy, e⟩ := List.mem_map.1 this
  have e' : y = A := by exact_mod_cast e
  subst e'
  rw [← h2] at hy
  exact h.once h1 hy
theorem ord_two {l : List (Int × Int)} {d : Int} {o : List Nat} (h : OrdL l d o) {k A B : Nat} (hA : o[k]? = some A) (hB : o[k + 1]? = some B) : kAt l d A < kAt l d B ∨ kAt l d A = kAt l d B ∧ A < B := by
  obtain ⟨h1, h2⟩ := List.getElem?_eq_some_iff.1 hA
  obtain ⟨h3, h4⟩ := List.getElem?_eq_some_iff.1 hB
  have := h.at (i := k) (j := k + 1) (by omega) h3
  rw [h2, h4] at this
  exact this
theorem remD {a : Int} (h : 0 ≤ a) : ∃ D : Nat, a.tmod 4 = (D : Int) ∧ D < 4 := by
  obtain ⟨n, rfl⟩ := Int.eq_ofNat_of_zero_le h
  exact ⟨n % 4, by rw [Int.tmod_eq_emod_of_nonneg (by omega)]; omega, Nat.mod_lt _ (by decide)⟩
set_option maxHeartbeats 8000000 in
set_option maxRecDepth 100000 in
theorem order_walk (ev : Value) (l : List (Int × Int)) (d dx dy : Int) (w : World) (he : Prs w ev l) (_ : InPrs l) (d0 : 0 ≤ d) (_ : d ≤ 255) (x0 : -32768 ≤ dx) (x1 : dx ≤ 32767) (y0 : -32768 ≤ dy) (y1 : dy ≤ 32767) :
    Calls Try.prog 3 #[ev, .int .u8 d, .int .i16 dx, .int .i16 dy] w fun e w' => e = .returned (.bool true) ∧ Below w.heap.size w w' := by
  obtain ⟨eq0, ec0, rfl⟩ := he.shape
  have HB := Lib.hid (Below.refl w.heap.size w)
  have HE := Lib.hid he
  obtain ⟨D, hD, hD4⟩ := remD d0
  have wd8 : IntKind.u8.wrap (D : Int) = D := IntWalk.u8_in _ (by omega)
  have wd64 : IntKind.i64.wrap (D : Int) = D := IntWalk.i64_in _ (by omega)
  have HDX : Hid ((-32768 ≤ dx ∧ dx ≤ 32767) ∧ -32768 ≤ dy ∧ dy ≤ 32767) := Lib.hid ⟨⟨x0, x1⟩, y0, y1⟩
  clear he x0 x1 y0 y1
  go_enter Try.func3, Try.ntmps3
  go_wp2_with fail
  refine (known10_any _).mono ?_
  rintro e w1 ⟨rfl, hb⟩
  have HB_ := Lib.hid (bOn6 HB.out hb)
  have HE_ := Lib.hid (HE.out.below hb)
  clear HB HE
  have HB := HB_
  have HE := HE_
  clear HB_ HE_
  clear hb
  obtain ⟨r, hr⟩ : ∃ r, nearB l = r := ⟨_, rfl⟩
  have HR := Lib.hid hr
  clear hr
  go_wp2_with fail
  refine (near_is HE.out HR.out).mono ?_
  rintro e w2 ⟨rfl, rfl⟩
  cases r
  · go_wp2_with fail
    go_ret
    exact ⟨rfl, HB.out⟩
  have HSM := Lib.hid (near_small HR.out).1
  have HLE : Hid (l.length ≤ 120) := Lib.hid (near_small HR.out).2
  go_wp2_with fail
  clear HR hD wd8 wd64 d0
  refine (order_at HE.out HSM.out rfl (by have := HLE.out; omega)).mono ?_
  rintro e w3 ⟨go, o, rfl, ho, hk, hb⟩
  have HO := Lib.hid ho
  have HK := Lib.hid hk
  clear ho hk
  have HB_ := Lib.hid (bOn6 HB.out hb)
  have HE_ := Lib.hid (HE.out.below hb)
  clear HB HE
  have HB := HB_
  have HE := HE_
  clear HB_ HE_
  clear hb
  go_wp2_with fail
  go_loopw [11, 12, 13, 14] (fun mv iv _ _ wr => ORel w3 dx dy l mv iv wr) (fun _ iv _ _ _ => l.length - (intOf iv).toNat)
  case atStart => exact ⟨0, Nat.zero_le _, rfl, by rw [List.take_zero]; exact PT.nil⟩
  case round =>
    obtain ⟨k, hk, rfl, hm⟩ := hrel
    have HM := Lib.hid hm
    by_cases hlt : k < l.length
    case neg =>
      obtain rfl : k = l.length := by omega
      rw [List.take_length] at hm
      obtain ⟨mq, mc, rfl⟩ := hm.shape1 (movL_len dx dy l)
      have HMI := Lib.hid (prs_of_owns hm.r1 (by rw [movL_len]; have := HLE.out; omega))
      have hb := hm.b
      clear HM hm hlt hk
      have HB_ := Lib.hid (bOn6 HB.out hb)
      have HE_ := Lib.hid (HE.out.below hb)
      have HK_ := Lib.hid (HK.out.below hb)
      clear HB HE HK
      have HB := HB_
      have HE := HE_
      have HK := HK_
      clear HB_ HE_ HK_
      clear hb
      obtain ⟨r, hr⟩ : ∃ r, nearB (movL dx dy l) = r := ⟨_, rfl⟩
      have HR := Lib.hid hr
      clear hr
      go_wp2_with fail
      refine (near_is HMI.out HR.out).mono ?_
      rintro e w5 ⟨rfl, rfl⟩
      cases r
      · go_wp2_with fail
        go_ret
        exact ⟨rfl, HB.out⟩
      have HSM2 := Lib.hid (near_small HR.out).1
      go_wp2_with fail
      refine (order_at HMI.out HSM2.out (movL_len dx dy l) (by have := HLE.out; omega)).mono ?_
      rintro e w6 ⟨gp, p, rfl, ho, hk, hb⟩
      have HOp := Lib.hid ho
      have HKp := Lib.hid hk
      clear ho hk
      have HB_ := Lib.hid (bOn6 HB.out hb)
      have HE_ := Lib.hid (HE.out.below hb)
      have HK_ := Lib.hid (HK.out.below hb)
      have HMI_ := Lib.hid (HMI.out.below hb)
      clear HB HE HK HMI
      have HB := HB_
      have HE := HE_
      have HK := HK_
      have HMI := HMI_
      clear HB_ HE_ HK_ HMI_
      clear hb
      go_wp2_with fail
      obtain rfl := ord_moved HO.out HOp.out rfl
      refine (same_is HKp.out HK.out rfl).mono ?_
      rintro e w7 ⟨rfl, hb⟩
      have HB_ := Lib.hid (bOn6 HB.out hb)
      have HE_ := Lib.hid (HE.out.below hb)
      have HK_ := Lib.hid (HK.out.below hb)
      have HMI_ := Lib.hid (HMI.out.below hb)
      have HKp_ := Lib.hid (HKp.out.below hb)
      clear HB HE HK HMI HKp
      have HB := HB_
      have HE := HE_
      have HK := HK_
      have HMI := HMI_
      have HKp := HKp_
      clear HB_ HE_ HK_ HMI_ HKp_
      clear hb
      go_wp2_with fail
      go_ret
      exact ⟨rfl, HB.out⟩
    have hki : (k : Int) < (l.length : Int) := by omega
    have hl9 := HLE.out
    have hb := hm.b
    clear hm
    have HE3 := HE
    have HB_ := Lib.hid (bOn6 HB.out hb)
    have HE_ := Lib.hid (HE.out.below hb)
    have HK_ := Lib.hid (HK.out.below hb)
    clear HB HE HK
    have HB := HB_
    have HE := HE_
    have HK := HK_
    clear HB_ HE_ HK_
    clear hb
    obtain ⟨A, hA, hAn⟩ := HO.out.some hlt
    obtain ⟨⟨xa, ya⟩, hxa⟩ : ∃ e, l[A]? = some e := ⟨_, List.getElem?_eq_getElem hAn⟩
    obtain ⟨⟨x, y⟩, hxy⟩ : ∃ e, l[k]? = some e := ⟨_, List.getElem?_eq_getElem hlt⟩
    have hai : (A : Int) < (l.length : Int) := by omega
    obtain ⟨b1, s1, e1, pc, pl⟩ := HK.out.atZ hA
    injection e1 with e1
    injection e1 with e1 e2
    subst e1 e2
    rw [Nat.zero_add] at pc
    have PC := Lib.hid pc
    obtain ⟨P, hP⟩ : ∃ P, placeL ((zN o).take k) A = P := ⟨_, rfl⟩
    have hPn := ord_alone HO.out hA
    rw [hP] at hPn
    have HPL := Lib.hid hP
    have hd1 : decide ((A : Int) < 0) = false := decide_eq_false (by omega)
    have hd2 : decide ((l.length : Int) ≤ (A : Int)) = false := decide_eq_false (by omega)
    have hd3 : decide (0 ≤ P) = false := decide_eq_false (by omega)
    have HDF : Hid ((decide ((A : Int) < 0) = false ∧ decide ((l.length : Int) ≤ (A : Int)) = false ∧ decide (l.length ≤ A) = false) ∧ (¬ l.length ≤ A) ∧ decide (0 ≤ P) = false) := Lib.hid ⟨⟨hd1, hd2, decide_eq_false (by omega)⟩, by omega, hd3⟩
    have hol := HO.out.len
    have HTK : Hid (I64s wr (.slice (some ⟨go, 0, none⟩) k l.length) ((zN o).take k)) := Lib.hid (by
      have := HK.out
      rw [← hol, ← zN_len o] at this
      have := this.takeC (k := k) (by rw [zN_len]; omega)
      rwa [zN_len, hol] at this)
    have hkn : (k : Int) ≤ (l.length : Int) := by omega
    have HXA := Lib.hid hxa
    have HXY := Lib.hid hxy
    have HA := Lib.hid hA
    have DS0 : Hid (GG.BelL wr (fun _ => false) () wr.drew) := Lib.hid ⟨(Below.refl _ _).drew⟩
    clear pc pl hP hPn hxa hxy hA hol hd1 hd2 hd3
    go_wp2_with fail
    refine' GG.wp_growL _ (GG.BelL wr) [[], [], [0, 1], [0, 1, 2], [0, 1, 2, 3], [0, 1, 2, 3, 4], [0, 1, 2, 3, 4, 5], [0, 1, 2, 3, 4, 5], [0, 1, 2, 3, 4, 5, 6, 7], [0, 1, 2, 3, 4, 5, 6, 7, 8], [0, 1, 2, 3, 4, 5], [0, 1, 2, 3, 4, 5, 10], [0, 1, 2, 3, 4, 5, 6, 7, 8, 9, 10, 11], [0, 1, 2, 3, 4, 5, 6, 7, 8, 9, 10, 11, 12], [0, 1, 2, 3, 4, 5, 6, 7, 8, 9, 10, 11, 12, 13], [0, 1, 2, 3, 4, 5, 6, 7, 8, 9, 10, 11, 12, 13, 14], [0, 1, 2, 3, 4, 5, 6, 7, 8, 9, 10, 11, 12, 13, 14], [0, 1, 2, 3, 4, 5, 6, 7, 8, 9, 10, 11, 12, 13, 14, 15, 16], [0, 1, 2, 3, 4, 5, 6, 7, 8, 9, 10, 11, 12, 13, 14], [0, 1, 2, 3, 4, 5, 6, 7, 8, 9, 10, 11, 12, 13, 14], [0, 1, 2, 3, 4, 5, 6, 7, 8, 9, 10, 11, 12, 13, 14, 18, 19], [0, 1, 2, 3, 4, 5, 6, 7, 8, 9, 10, 11, 12, 13, 14, 18, 19, 20], [0, 1, 2, 3, 4, 5, 6, 7, 8, 9, 10, 11, 12, 13, 14, 15, 16, 17, 18, 19, 20, 21], [0, 1, 2, 3, 4, 5, 6, 7, 8, 9, 10, 11, 12, 13, 14, 15, 16, 17, 18, 19, 20, 21, 22], [0, 1, 2, 3, 4, 5, 6, 7, 8, 9, 10, 11, 12, 13, 14, 15, 16, 17, 18, 19, 20, 21, 22, 23]] (GG.Fact.lit (Rl := GG.RlL) _ :: GG.Fact.lit (Rl := GG.RlL) _ :: GG.Fact.lit (Rl := GG.RlL) _ :: GG.Fact.lit (Rl := GG.RlL) _ :: GG.Fact.lit (Rl := GG.RlL) _ :: GG.Fact.lit (Rl := GG.RlL) _ :: GG.Fact.lit (Rl := GG.RlL) _ :: GG.Fact.lit (Rl := GG.RlL) _ :: GG.Fact.lit (Rl := GG.RlL) _ :: GG.Fact.lit (Rl := GG.RlL) _ :: GG.Fact.lit (Rl := GG.RlL) _ :: GG.Fact.lit (Rl := GG.RlL) _ :: GG.Fact.lit (Rl := GG.RlL) _ :: GG.Fact.lit (Rl := GG.RlL) _ :: GG.Fact.lit (Rl := GG.RlL) _ :: GG.Fact.lit (Rl := GG.RlL) _ :: GG.Fact.lit (Rl := GG.RlL) _ :: GG.Fact.lit (Rl := GG.RlL) _ :: GG.Fact.lit (Rl := GG.RlL) _ :: GG.Fact.lit (Rl := GG.RlL) _ :: GG.Fact.lit (Rl := GG.RlL) _ :: GG.Fact.lit (Rl := GG.RlL) _ :: GG.Fact.lit (Rl := GG.RlL) _ :: GG.Fact.lit (Rl := GG.RlL) _ :: GG.Fact.lit (Rl := GG.RlL) _ :: []) (by kernel_rfl) rfl (by kernel_rfl) (()) (DS0.out) ?seqoa
    case' seqoa => skip
    (refine' GG.grow_lit (GG.BelL.still) rfl ?wtoa0 ?runoa0 ?putoa0 ?nextoa0; (case wtoa0 => rfl); (case runoa0 => (intro w' hS; (obtain ⟨dn, s, hS⟩ := hS); (have pc := keep hS.b PC.out); (have pl := World.block_lt_of_cell? _ _ pc); (obtain ⟨⟨hd1, hd2, hd4⟩, hd5, hd3⟩ := HDF.out); clear hS; go_simp; first | done | exact rfl)); (case putoa0 => (first | (simp only [Act.put, List.setIfInBounds_toArray, List.set_cons_zero, List.set_cons_succ]; first | done | exact rfl) | rfl)); (case' nextoa0 => skip))
    (refine' GG.grow_lit (GG.BelL.still) rfl ?wtoa1 ?runoa1 ?putoa1 ?nextoa1; (case wtoa1 => rfl); (case runoa1 => (intro w' hS; (obtain ⟨dn, s, hS⟩ := hS); (have pc := keep hS.b PC.out); (have pl := World.block_lt_of_cell? _ _ pc); (obtain ⟨⟨hd1, hd2, hd4⟩, hd5, hd3⟩ := HDF.out); clear hS; go_simp; first | done | exact rfl)); (case putoa1 => (first | (simp only [Act.put, List.setIfInBounds_toArray, List.set_cons_zero, List.set_cons_succ]; first | done | exact rfl) | rfl)); (case' nextoa1 => skip))
    (refine' GG.grow_lit (GG.BelL.still) rfl ?wtoa2 ?runoa2 ?putoa2 ?nextoa2; (case wtoa2 => rfl); (case runoa2 => (intro w' hS; (obtain ⟨dn, s, hS⟩ := hS); (have pc := keep hS.b PC.out); (have pl := World.block_lt_of_cell? _ _ pc); (obtain ⟨⟨hd1, hd2, hd4⟩, hd5, hd3⟩ := HDF.out); clear hS; go_simp; first | done | exact rfl)); (case putoa2 => (first | (simp only [Act.put, List.setIfInBounds_toArray, List.set_cons_zero, List.set_cons_succ]; first | done | exact rfl) | rfl)); (case' nextoa2 => skip))
    (refine' GG.grow_lit (GG.BelL.still) rfl ?wtoa3 ?runoa3 ?putoa3 ?nextoa3; (case wtoa3 => rfl); (case runoa3 => (intro w' hS; (obtain ⟨dn, s, hS⟩ := hS); (have pc := keep hS.b PC.out); (have pl := World.block_lt_of_cell? _ _ pc); (obtain ⟨⟨hd1, hd2, hd4⟩, hd5, hd3⟩ := HDF.out); clear hS; go_simp; first | done | exact rfl)); (case putoa3 => (first | (simp only [Act.put, List.setIfInBounds_toArray, List.set_cons_zero, List.set_cons_succ]; first | done | exact rfl) | rfl)); (case' nextoa3 => skip))
    (refine' GG.grow_lit (GG.BelL.still) rfl ?wtoa4 ?runoa4 ?putoa4 ?nextoa4; (case wtoa4 => rfl); (case runoa4 => (intro w' hS; (obtain ⟨dn, s, hS⟩ := hS); (have pc := keep hS.b PC.out); (have pl := World.block_lt_of_cell? _ _ pc); (obtain ⟨⟨hd1, hd2, hd4⟩, hd5, hd3⟩ := HDF.out); clear hS; go_simp; first | done | exact rfl)); (case putoa4 => (first | (simp only [Act.put, List.setIfInBounds_toArray, List.set_cons_zero, List.set_cons_succ]; first | done | exact rfl) | rfl)); (case' nextoa4 => skip))
    (refine' GG.grow_lit (GG.BelL.still) rfl ?wtoa5 ?runoa5 ?putoa5 ?nextoa5; (case wtoa5 => rfl); (case runoa5 => (intro w' hS; (obtain ⟨dn, s, hS⟩ := hS); (have pc := keep hS.b PC.out); (have pl := World.block_lt_of_cell? _ _ pc); (obtain ⟨⟨hd1, hd2, hd4⟩, hd5, hd3⟩ := HDF.out); clear hS; go_simp; first | done | exact rfl)); (case putoa5 => (first | (simp only [Act.put, List.setIfInBounds_toArray, List.set_cons_zero, List.set_cons_succ]; first | done | exact rfl) | rfl)); (case' nextoa5 => skip))
    (refine' GG.grow_lit (GG.BelL.still) rfl ?wtoa6 ?runoa6 ?putoa6 ?nextoa6; (case wtoa6 => rfl); (case runoa6 => (intro w' hS; (obtain ⟨dn, s, hS⟩ := hS); (have pc := keep hS.b PC.out); (have pl := World.block_lt_of_cell? _ _ pc); (obtain ⟨⟨hd1, hd2, hd4⟩, hd5, hd3⟩ := HDF.out); clear hS; go_simp; first | done | exact rfl)); (case putoa6 => (first | (simp only [Act.put, List.setIfInBounds_toArray, List.set_cons_zero, List.set_cons_succ]; first | done | exact rfl) | rfl)); (case' nextoa6 => skip))
    (refine' GG.grow_lit (GG.BelL.still) rfl ?wtoa7 ?runoa7 ?putoa7 ?nextoa7; (case wtoa7 => rfl); (case runoa7 => (intro w' hS; (obtain ⟨dn, s, hS⟩ := hS); (have pc := keep hS.b PC.out); (have pl := World.block_lt_of_cell? _ _ pc); (obtain ⟨⟨hd1, hd2, hd4⟩, hd5, hd3⟩ := HDF.out); clear hS; go_simp; first | done | exact rfl)); (case putoa7 => (first | (simp only [Act.put, List.setIfInBounds_toArray, List.set_cons_zero, List.set_cons_succ]; first | done | exact rfl) | rfl)); (case' nextoa7 => skip))
    (refine' GG.grow_lit (GG.BelL.still) rfl ?wtoa8 ?runoa8 ?putoa8 ?nextoa8; (case wtoa8 => rfl); (case runoa8 => (intro w' hS; (obtain ⟨dn, s, hS⟩ := hS); (have pc := keep hS.b PC.out); (have pl := World.block_lt_of_cell? _ _ pc); (obtain ⟨⟨hd1, hd2, hd4⟩, hd5, hd3⟩ := HDF.out); clear hS; go_simp; first | done | exact rfl)); (case putoa8 => (first | (simp only [Act.put, List.setIfInBounds_toArray, List.set_cons_zero, List.set_cons_succ]; first | done | exact rfl) | rfl)); (case' nextoa8 => skip))
    (refine' GG.grow_lit (GG.BelL.still) rfl ?wtoa9 ?runoa9 ?putoa9 ?nextoa9; (case wtoa9 => rfl); (case runoa9 => (intro w' hS; (obtain ⟨dn, s, hS⟩ := hS); (have pc := keep hS.b PC.out); (have pl := World.block_lt_of_cell? _ _ pc); (obtain ⟨⟨hd1, hd2, hd4⟩, hd5, hd3⟩ := HDF.out); clear hS; go_simp; first | done | exact rfl)); (case putoa9 => (first | (simp only [Act.put, List.setIfInBounds_toArray, List.set_cons_zero, List.set_cons_succ]; first | done | exact rfl) | rfl)); (case' nextoa9 => skip))
    (refine' GG.grow_lit (GG.BelL.still) rfl ?wtoa10 ?runoa10 ?putoa10 ?nextoa10; (case wtoa10 => rfl); (case runoa10 => (intro w' hS; (obtain ⟨dn, s, hS⟩ := hS); (have pc := keep hS.b PC.out); (have pl := World.block_lt_of_cell? _ _ pc); (obtain ⟨⟨hd1, hd2, hd4⟩, hd5, hd3⟩ := HDF.out); clear hS; go_simp; first | done | exact rfl)); (case putoa10 => (first | (simp only [Act.put, List.setIfInBounds_toArray, List.set_cons_zero, List.set_cons_succ]; first | done | exact rfl) | rfl)); (case' nextoa10 => skip))
    (refine' GG.grow_lit (GG.BelL.still) rfl ?wtoa11 ?runoa11 ?putoa11 ?nextoa11; (case wtoa11 => rfl); (case runoa11 => (intro w' hS; (obtain ⟨dn, s, hS⟩ := hS); (have pc := keep hS.b PC.out); (have pl := World.block_lt_of_cell? _ _ pc); (obtain ⟨⟨hd1, hd2, hd4⟩, hd5, hd3⟩ := HDF.out); clear hS; go_simp; first | done | exact rfl)); (case putoa11 => (first | (simp only [Act.put, List.setIfInBounds_toArray, List.set_cons_zero, List.set_cons_succ]; first | done | exact rfl) | rfl)); (case' nextoa11 => skip))
    (refine' GG.grow_lit (GG.BelL.still) rfl ?wtoa12 ?runoa12 ?putoa12 ?nextoa12; (case wtoa12 => rfl); (case runoa12 => (intro w' hS; (obtain ⟨dn, s, hS⟩ := hS); (have pc := keep hS.b PC.out); (have pl := World.block_lt_of_cell? _ _ pc); (obtain ⟨⟨hd1, hd2, hd4⟩, hd5, hd3⟩ := HDF.out); clear hS; go_simp; first | done | exact rfl)); (case putoa12 => (first | (simp only [Act.put, List.setIfInBounds_toArray, List.set_cons_zero, List.set_cons_succ]; first | done | exact rfl) | rfl)); (case' nextoa12 => skip))
    (refine' GG.grow_lit (GG.BelL.still) rfl ?wtoa13 ?runoa13 ?putoa13 ?nextoa13; (case wtoa13 => rfl); (case runoa13 => (intro w' hS; (obtain ⟨dn, s, hS⟩ := hS); (have pc := keep hS.b PC.out); (have pl := World.block_lt_of_cell? _ _ pc); (obtain ⟨⟨hd1, hd2, hd4⟩, hd5, hd3⟩ := HDF.out); clear hS; go_simp; first | done | exact rfl)); (case putoa13 => (first | (simp only [Act.put, List.setIfInBounds_toArray, List.set_cons_zero, List.set_cons_succ]; first | done | exact rfl) | rfl)); (case' nextoa13 => skip))
    (refine' GG.grow_lit (GG.BelL.still) rfl ?wtoa14 ?runoa14 ?putoa14 ?nextoa14; (case wtoa14 => rfl); (case runoa14 => (intro w' hS; (obtain ⟨dn, s, hS⟩ := hS); (have pc := keep hS.b PC.out); (have pl := World.block_lt_of_cell? _ _ pc); (obtain ⟨⟨hd1, hd2, hd4⟩, hd5, hd3⟩ := HDF.out); clear hS; go_simp; first | done | exact rfl)); (case putoa14 => (first | (simp only [Act.put, List.setIfInBounds_toArray, List.set_cons_zero, List.set_cons_succ]; first | done | exact rfl) | rfl)); (case' nextoa14 => skip))
    (refine' GG.grow_lit (GG.BelL.still) rfl ?wtoa15 ?runoa15 ?putoa15 ?nextoa15; (case wtoa15 => rfl); (case runoa15 => (intro w' hS; (obtain ⟨dn, s, hS⟩ := hS); (have pc := keep hS.b PC.out); (have pl := World.block_lt_of_cell? _ _ pc); (obtain ⟨⟨hd1, hd2, hd4⟩, hd5, hd3⟩ := HDF.out); clear hS; go_simp; first | done | exact rfl)); (case putoa15 => (first | (simp only [Act.put, List.setIfInBounds_toArray, List.set_cons_zero, List.set_cons_succ]; first | done | exact rfl) | rfl)); (case' nextoa15 => skip))
    (refine' GG.grow_lit (GG.BelL.still) rfl ?wtoa16 ?runoa16 ?putoa16 ?nextoa16; (case wtoa16 => rfl); (case runoa16 => (intro w' hS; (obtain ⟨dn, s, hS⟩ := hS); (have pc := keep hS.b PC.out); (have pl := World.block_lt_of_cell? _ _ pc); (obtain ⟨⟨hd1, hd2, hd4⟩, hd5, hd3⟩ := HDF.out); clear hS; go_simp; first | done | exact rfl)); (case putoa16 => (first | (simp only [Act.put, List.setIfInBounds_toArray, List.set_cons_zero, List.set_cons_succ]; first | done | exact rfl) | rfl)); (case' nextoa16 => skip))
    (refine' GG.grow_lit (GG.BelL.still) rfl ?wtoa17 ?runoa17 ?putoa17 ?nextoa17; (case wtoa17 => rfl); (case runoa17 => (intro w' hS; (obtain ⟨dn, s, hS⟩ := hS); (have pc := keep hS.b PC.out); (have pl := World.block_lt_of_cell? _ _ pc); (obtain ⟨⟨hd1, hd2, hd4⟩, hd5, hd3⟩ := HDF.out); clear hS; go_simp; first | done | exact rfl)); (case putoa17 => (first | (simp only [Act.put, List.setIfInBounds_toArray, List.set_cons_zero, List.set_cons_succ]; first | done | exact rfl) | rfl)); (case' nextoa17 => skip))
    (refine' GG.grow_lit (GG.BelL.still) rfl ?wtoa18 ?runoa18 ?putoa18 ?nextoa18; (case wtoa18 => rfl); (case runoa18 => (intro w' hS; (obtain ⟨dn, s, hS⟩ := hS); (have pc := keep hS.b PC.out); (have pl := World.block_lt_of_cell? _ _ pc); (obtain ⟨⟨hd1, hd2, hd4⟩, hd5, hd3⟩ := HDF.out); clear hS; go_simp; first | done | exact rfl)); (case putoa18 => (first | (simp only [Act.put, List.setIfInBounds_toArray, List.set_cons_zero, List.set_cons_succ]; first | done | exact rfl) | rfl)); (case' nextoa18 => skip))
    (refine' GG.grow_lit (GG.BelL.still) rfl ?wtoa19 ?runoa19 ?putoa19 ?nextoa19; (case wtoa19 => rfl); (case runoa19 => (intro w' hS; (obtain ⟨dn, s, hS⟩ := hS); (have pc := keep hS.b PC.out); (have pl := World.block_lt_of_cell? _ _ pc); (obtain ⟨⟨hd1, hd2, hd4⟩, hd5, hd3⟩ := HDF.out); clear hS; go_simp; first | done | exact rfl)); (case putoa19 => (first | (simp only [Act.put, List.setIfInBounds_toArray, List.set_cons_zero, List.set_cons_succ]; first | done | exact rfl) | rfl)); (case' nextoa19 => skip))
    (refine' GG.grow_lit (GG.BelL.still) rfl ?wtoa20 ?runoa20 ?putoa20 ?nextoa20; (case wtoa20 => rfl); (case runoa20 => (intro w' hS; (obtain ⟨dn, s, hS⟩ := hS); (have pc := keep hS.b PC.out); (have pl := World.block_lt_of_cell? _ _ pc); (obtain ⟨⟨hd1, hd2, hd4⟩, hd5, hd3⟩ := HDF.out); clear hS; go_simp; first | done | exact rfl)); (case putoa20 => (first | (simp only [Act.put, List.setIfInBounds_toArray, List.set_cons_zero, List.set_cons_succ]; first | done | exact rfl) | rfl)); (case' nextoa20 => skip))
    (refine' GG.grow_lit (GG.BelL.still) rfl ?wtoa21 ?runoa21 ?putoa21 ?nextoa21; (case wtoa21 => rfl); (case runoa21 => (intro w' hS; (obtain ⟨dn, s, hS⟩ := hS); (have pc := keep hS.b PC.out); (have pl := World.block_lt_of_cell? _ _ pc); (obtain ⟨⟨hd1, hd2, hd4⟩, hd5, hd3⟩ := HDF.out); clear hS; go_simp; first | done | exact rfl)); (case putoa21 => (first | (simp only [Act.put, List.setIfInBounds_toArray, List.set_cons_zero, List.set_cons_succ]; first | done | exact rfl) | rfl)); (case' nextoa21 => skip))
    (refine' GG.grow_lit_call (u := .int .i64 P) rfl Try.func9 (by kernel_rfl) rfl rfl ?wtoa22 ?runoa22 ?putoa22 ?nextoa22; (case wtoa22 => rfl); (case runoa22 => (intro dn s w' hS hd H; exact (rplace_any _ _ _ _ (HTK.out.below hS.b)).mono (fun e w2 h => by rw [HPL.out] at h; exact ⟨(), h.1, h.2 ▸ ⟨hS.b⟩, h.2 ▸ Below.refl _ _, h.2 ▸ Nat.le_refl _⟩))); (case putoa22 => (first | (simp only [Act.put, List.setIfInBounds_toArray, List.set_cons_zero, List.set_cons_succ]; first | done | exact rfl) | rfl)); (case' nextoa22 => skip))
    (refine' GG.grow_lit (GG.BelL.still) rfl ?wtoa23 ?runoa23 ?putoa23 ?nextoa23; (case wtoa23 => rfl); (case runoa23 => (intro w' hS; (obtain ⟨dn, s, hS⟩ := hS); (have pc := keep hS.b PC.out); (have pl := World.block_lt_of_cell? _ _ pc); (obtain ⟨⟨hd1, hd2, hd4⟩, hd5, hd3⟩ := HDF.out); clear hS; go_simp; first | done | exact rfl)); (case putoa23 => (first | (simp only [Act.put, List.setIfInBounds_toArray, List.set_cons_zero, List.set_cons_succ]; first | done | exact rfl) | rfl)); (case' nextoa23 => skip))
    (refine' GG.grow_lit (GG.BelL.still) rfl ?wtoa24 ?runoa24 ?putoa24 ?nextoa24; (case wtoa24 => rfl); (case runoa24 => (intro w' hS; (obtain ⟨dn, s, hS⟩ := hS); (have pc := keep hS.b PC.out); (have pl := World.block_lt_of_cell? _ _ pc); (obtain ⟨⟨hd1, hd2, hd4⟩, hd5, hd3⟩ := HDF.out); clear hS; go_simp; first | done | exact rfl)); (case putoa24 => (first | (simp only [Act.put, List.setIfInBounds_toArray, List.set_cons_zero, List.set_cons_succ]; first | done | exact rfl) | rfl)); (case' nextoa24 => skip))
    have HM2 := HM
    clear HM
    have HM := HM2
    clear HM2 HTK HPL
    intro dn s wa hS _ _
    have hb := hS.b
    clear hS DS0
    have HB_ := Lib.hid (bOn6 HB.out hb)
    have HE_ := Lib.hid (HE.out.below hb)
    have HK_ := Lib.hid (HK.out.below hb)
    clear HB HE HK
    have HB := HB_
    have HE := HE_
    have HK := HK_
    clear HB_ HE_ HK_
    have HM_ := Lib.hid (PT.stab _ _ HM.out hb)
    clear HM
    have HM := HM_
    clear HM_
    clear hb
    rcases Nat.eq_zero_or_pos k with hk0 | hk0
    case inl =>
      have hz0 : decide ((0 : Int) < (k : Int)) = false := decide_eq_false (by omega)
      have hz1 : decide (0 < k) = false := decide_eq_false (by omega)
      have hz2 : ¬ 0 < k := by omega
      clear hk0
      go_wp2_with fail
      obtain ⟨eb, eo, he9, z0, z1, -⟩ := HE3.out.atP HXY.out
      subst he9
      have Z0 := Lib.hid z0
      have Z1 := Lib.hid z1
      have HMS := Lib.hid (movL_snoc (dx := dx) (dy := dy) hlt (List.getElem?_eq_some_iff.1 HXY.out).2)
      obtain ⟨⟨s0, s1⟩, s2, s3⟩ := HSM.out _ (List.mem_of_getElem? HXY.out)
      obtain ⟨⟨t0, t1⟩, t2, t3⟩ := HDX.out
      simp only at s0 s1 s2 s3
      have WX : Hid ((IntKind.i64.wrap dx = dx ∧ IntKind.i64.wrap dy = dy) ∧ IntKind.i64.wrap (x + dx) = x + dx ∧ IntKind.i64.wrap (y + dy) = y + dy) := Lib.hid ⟨⟨IntWalk.i64_in _ (by omega), IntWalk.i64_in _ (by omega)⟩, IntWalk.i64_in _ (by omega), IntWalk.i64_in _ (by omega)⟩
      have HL1 : Hid ((movL dx dy (l.take k)).length ≤ 100000) := Lib.hid (by rw [movL_len, List.length_take]; omega)
      have SA0 : Hid (GG.ApS 19 (PT w3 (movL dx dy (l.take k)) u11 [] (.slice none 0 0)) w3 (fun _ => false) false wa.drew) := Lib.hid ⟨rfl, fun _ => PT.stab _ _ HM.out (Below.refl _ _).drew, HM.out.b.drew⟩
      have hwk : IntKind.i64.wrap ((k : Int) + 1) = (k : Int) + 1 := IntWalk.i64_in _ (by omega)
      clear z0 z1 s0 s1 s2 s3 t0 t1 t2 t3
      go_wp2_with fail
      refine' GG.wp_thenL _ 20 (GG.ApS 19 (PT w3 (movL dx dy (l.take k)) u11 [] (.slice none 0 0)) w3) [[], [], [], [1, 2], [1, 2, 3], [1, 2, 3, 4], [], [6], [1, 2, 3, 4, 5, 6, 7], [], [], [9, 10], [9, 10, 11], [9, 10, 11, 12], [], [14], [9, 10, 11, 12, 13, 14, 15], [1, 2, 3, 4, 5, 6, 7, 8, 9, 10, 11, 12, 13, 14, 15, 16], [1, 2, 3, 4, 5, 6, 7, 8, 9, 10, 11, 12, 13, 14, 15, 16, 17], [0, 1, 2, 3, 4, 5, 6, 7, 8, 9, 10, 11, 12, 13, 14, 15, 16, 17, 18]] (GG.Fact.lit (Rl := GG.RlA) _ :: GG.Fact.lit (Rl := GG.RlA) _ :: GG.Fact.lit (Rl := GG.RlA) _ :: GG.Fact.lit (Rl := GG.RlA) _ :: GG.Fact.lit (Rl := GG.RlA) _ :: GG.Fact.lit (Rl := GG.RlA) _ :: GG.Fact.lit (Rl := GG.RlA) _ :: GG.Fact.lit (Rl := GG.RlA) _ :: GG.Fact.lit (Rl := GG.RlA) _ :: GG.Fact.lit (Rl := GG.RlA) _ :: GG.Fact.lit (Rl := GG.RlA) _ :: GG.Fact.lit (Rl := GG.RlA) _ :: GG.Fact.lit (Rl := GG.RlA) _ :: GG.Fact.lit (Rl := GG.RlA) _ :: GG.Fact.lit (Rl := GG.RlA) _ :: GG.Fact.lit (Rl := GG.RlA) _ :: GG.Fact.lit (Rl := GG.RlA) _ :: GG.Fact.lit (Rl := GG.RlA) _ :: GG.Fact.prop (Rl := GG.RlA) _ _ :: GG.Fact.prop (Rl := GG.RlA) _ _ :: []) (by kernel_rfl) rfl (by kernel_rfl) (false) (SA0.out) ?seqoz
      case' seqoz => skip
      (refine' GG.grow_lit (GG.ApS.still (by decide)) rfl ?wtoz0 ?runoz0 ?putoz0 ?nextoz0; (case wtoz0 => rfl); (case runoz0 => (intro w' hS; (obtain ⟨dn, s, hS⟩ := hS); (have z0 := keep hS.b Z0.out); (have z1 := keep hS.b Z1.out); (have zl := World.block_lt_of_cell? _ _ z0); (obtain ⟨⟨wx, wy⟩, wx2, wy2⟩ := WX.out); clear hS; go_simp; first | done | exact rfl)); (case putoz0 => (first | (simp only [Act.put, List.setIfInBounds_toArray, List.set_cons_zero, List.set_cons_succ]; first | done | exact rfl) | rfl)); (case' nextoz0 => skip))
      (refine' GG.grow_lit (GG.ApS.still (by decide)) rfl ?wtoz1 ?runoz1 ?putoz1 ?nextoz1; (case wtoz1 => rfl); (case runoz1 => (intro w' hS; (obtain ⟨dn, s, hS⟩ := hS); (have z0 := keep hS.b Z0.out); (have z1 := keep hS.b Z1.out); (have zl := World.block_lt_of_cell? _ _ z0); (obtain ⟨⟨wx, wy⟩, wx2, wy2⟩ := WX.out); clear hS; go_simp; first | done | exact rfl)); (case putoz1 => (first | (simp only [Act.put, List.setIfInBounds_toArray, List.set_cons_zero, List.set_cons_succ]; first | done | exact rfl) | rfl)); (case' nextoz1 => skip))
      (refine' GG.grow_lit (GG.ApS.still (by decide)) rfl ?wtoz2 ?runoz2 ?putoz2 ?nextoz2; (case wtoz2 => rfl); (case runoz2 => (intro w' hS; (obtain ⟨dn, s, hS⟩ := hS); (have z0 := keep hS.b Z0.out); (have z1 := keep hS.b Z1.out); (have zl := World.block_lt_of_cell? _ _ z0); (obtain ⟨⟨wx, wy⟩, wx2, wy2⟩ := WX.out); clear hS; go_simp; first | done | exact rfl)); (case putoz2 => (first | (simp only [Act.put, List.setIfInBounds_toArray, List.set_cons_zero, List.set_cons_succ]; first | done | exact rfl) | rfl)); (case' nextoz2 => skip))
      (refine' GG.grow_lit (GG.ApS.still (by decide)) rfl ?wtoz3 ?runoz3 ?putoz3 ?nextoz3; (case wtoz3 => rfl); (case runoz3 => (intro w' hS; (obtain ⟨dn, s, hS⟩ := hS); (have z0 := keep hS.b Z0.out); (have z1 := keep hS.b Z1.out); (have zl := World.block_lt_of_cell? _ _ z0); (obtain ⟨⟨wx, wy⟩, wx2, wy2⟩ := WX.out); clear hS; go_simp; first | done | exact rfl)); (case putoz3 => (first | (simp only [Act.put, List.setIfInBounds_toArray, List.set_cons_zero, List.set_cons_succ]; first | done | exact rfl) | rfl)); (case' nextoz3 => skip))
      (refine' GG.grow_lit (GG.ApS.still (by decide)) rfl ?wtoz4 ?runoz4 ?putoz4 ?nextoz4; (case wtoz4 => rfl); (case runoz4 => (intro w' hS; (obtain ⟨dn, s, hS⟩ := hS); (have z0 := keep hS.b Z0.out); (have z1 := keep hS.b Z1.out); (have zl := World.block_lt_of_cell? _ _ z0); (obtain ⟨⟨wx, wy⟩, wx2, wy2⟩ := WX.out); clear hS; go_simp; first | done | exact rfl)); (case putoz4 => (first | (simp only [Act.put, List.setIfInBounds_toArray, List.set_cons_zero, List.set_cons_succ]; first | done | exact rfl) | rfl)); (case' nextoz4 => skip))
      (refine' GG.grow_lit (GG.ApS.still (by decide)) rfl ?wtoz5 ?runoz5 ?putoz5 ?nextoz5; (case wtoz5 => rfl); (case runoz5 => (intro w' hS; (obtain ⟨dn, s, hS⟩ := hS); (have z0 := keep hS.b Z0.out); (have z1 := keep hS.b Z1.out); (have zl := World.block_lt_of_cell? _ _ z0); (obtain ⟨⟨wx, wy⟩, wx2, wy2⟩ := WX.out); clear hS; go_simp; first | done | exact rfl)); (case putoz5 => (first | (simp only [Act.put, List.setIfInBounds_toArray, List.set_cons_zero, List.set_cons_succ]; first | done | exact rfl) | rfl)); (case' nextoz5 => skip))
      (refine' GG.grow_lit (GG.ApS.still (by decide)) rfl ?wtoz6 ?runoz6 ?putoz6 ?nextoz6; (case wtoz6 => rfl); (case runoz6 => (intro w' hS; (obtain ⟨dn, s, hS⟩ := hS); (have z0 := keep hS.b Z0.out); (have z1 := keep hS.b Z1.out); (have zl := World.block_lt_of_cell? _ _ z0); (obtain ⟨⟨wx, wy⟩, wx2, wy2⟩ := WX.out); clear hS; go_simp; first | done | exact rfl)); (case putoz6 => (first | (simp only [Act.put, List.setIfInBounds_toArray, List.set_cons_zero, List.set_cons_succ]; first | done | exact rfl) | rfl)); (case' nextoz6 => skip))
      (refine' GG.grow_lit (GG.ApS.still (by decide)) rfl ?wtoz7 ?runoz7 ?putoz7 ?nextoz7; (case wtoz7 => rfl); (case runoz7 => (intro w' hS; (obtain ⟨dn, s, hS⟩ := hS); (have z0 := keep hS.b Z0.out); (have z1 := keep hS.b Z1.out); (have zl := World.block_lt_of_cell? _ _ z0); (obtain ⟨⟨wx, wy⟩, wx2, wy2⟩ := WX.out); clear hS; go_simp; first | done | exact rfl)); (case putoz7 => (first | (simp only [Act.put, List.setIfInBounds_toArray, List.set_cons_zero, List.set_cons_succ]; first | done | exact rfl) | rfl)); (case' nextoz7 => skip))
      (refine' GG.grow_lit (GG.ApS.still (by decide)) rfl ?wtoz8 ?runoz8 ?putoz8 ?nextoz8; (case wtoz8 => rfl); (case runoz8 => (intro w' hS; (obtain ⟨dn, s, hS⟩ := hS); (have z0 := keep hS.b Z0.out); (have z1 := keep hS.b Z1.out); (have zl := World.block_lt_of_cell? _ _ z0); (obtain ⟨⟨wx, wy⟩, wx2, wy2⟩ := WX.out); clear hS; go_simp; first | done | exact rfl)); (case putoz8 => (first | (simp only [Act.put, List.setIfInBounds_toArray, List.set_cons_zero, List.set_cons_succ]; first | done | exact rfl) | rfl)); (case' nextoz8 => skip))
      (refine' GG.grow_lit (GG.ApS.still (by decide)) rfl ?wtoz9 ?runoz9 ?putoz9 ?nextoz9; (case wtoz9 => rfl); (case runoz9 => (intro w' hS; (obtain ⟨dn, s, hS⟩ := hS); (have z0 := keep hS.b Z0.out); (have z1 := keep hS.b Z1.out); (have zl := World.block_lt_of_cell? _ _ z0); (obtain ⟨⟨wx, wy⟩, wx2, wy2⟩ := WX.out); clear hS; go_simp; first | done | exact rfl)); (case putoz9 => (first | (simp only [Act.put, List.setIfInBounds_toArray, List.set_cons_zero, List.set_cons_succ]; first | done | exact rfl) | rfl)); (case' nextoz9 => skip))
      (refine' GG.grow_lit (GG.ApS.still (by decide)) rfl ?wtoz10 ?runoz10 ?putoz10 ?nextoz10; (case wtoz10 => rfl); (case runoz10 => (intro w' hS; (obtain ⟨dn, s, hS⟩ := hS); (have z0 := keep hS.b Z0.out); (have z1 := keep hS.b Z1.out); (have zl := World.block_lt_of_cell? _ _ z0); (obtain ⟨⟨wx, wy⟩, wx2, wy2⟩ := WX.out); clear hS; go_simp; first | done | exact rfl)); (case putoz10 => (first | (simp only [Act.put, List.setIfInBounds_toArray, List.set_cons_zero, List.set_cons_succ]; first | done | exact rfl) | rfl)); (case' nextoz10 => skip))
      (refine' GG.grow_lit (GG.ApS.still (by decide)) rfl ?wtoz11 ?runoz11 ?putoz11 ?nextoz11; (case wtoz11 => rfl); (case runoz11 => (intro w' hS; (obtain ⟨dn, s, hS⟩ := hS); (have z0 := keep hS.b Z0.out); (have z1 := keep hS.b Z1.out); (have zl := World.block_lt_of_cell? _ _ z0); (obtain ⟨⟨wx, wy⟩, wx2, wy2⟩ := WX.out); clear hS; go_simp; first | done | exact rfl)); (case putoz11 => (first | (simp only [Act.put, List.setIfInBounds_toArray, List.set_cons_zero, List.set_cons_succ]; first | done | exact rfl) | rfl)); (case' nextoz11 => skip))
      (refine' GG.grow_lit (GG.ApS.still (by decide)) rfl ?wtoz12 ?runoz12 ?putoz12 ?nextoz12; (case wtoz12 => rfl); (case runoz12 => (intro w' hS; (obtain ⟨dn, s, hS⟩ := hS); (have z0 := keep hS.b Z0.out); (have z1 := keep hS.b Z1.out); (have zl := World.block_lt_of_cell? _ _ z0); (obtain ⟨⟨wx, wy⟩, wx2, wy2⟩ := WX.out); clear hS; go_simp; first | done | exact rfl)); (case putoz12 => (first | (simp only [Act.put, List.setIfInBounds_toArray, List.set_cons_zero, List.set_cons_succ]; first | done | exact rfl) | rfl)); (case' nextoz12 => skip))
      (refine' GG.grow_lit (GG.ApS.still (by decide)) rfl ?wtoz13 ?runoz13 ?putoz13 ?nextoz13; (case wtoz13 => rfl); (case runoz13 => (intro w' hS; (obtain ⟨dn, s, hS⟩ := hS); (have z0 := keep hS.b Z0.out); (have z1 := keep hS.b Z1.out); (have zl := World.block_lt_of_cell? _ _ z0); (obtain ⟨⟨wx, wy⟩, wx2, wy2⟩ := WX.out); clear hS; go_simp; first | done | exact rfl)); (case putoz13 => (first | (simp only [Act.put, List.setIfInBounds_toArray, List.set_cons_zero, List.set_cons_succ]; first | done | exact rfl) | rfl)); (case' nextoz13 => skip))
      (refine' GG.grow_lit (GG.ApS.still (by decide)) rfl ?wtoz14 ?runoz14 ?putoz14 ?nextoz14; (case wtoz14 => rfl); (case runoz14 => (intro w' hS; (obtain ⟨dn, s, hS⟩ := hS); (have z0 := keep hS.b Z0.out); (have z1 := keep hS.b Z1.out); (have zl := World.block_lt_of_cell? _ _ z0); (obtain ⟨⟨wx, wy⟩, wx2, wy2⟩ := WX.out); clear hS; go_simp; first | done | exact rfl)); (case putoz14 => (first | (simp only [Act.put, List.setIfInBounds_toArray, List.set_cons_zero, List.set_cons_succ]; first | done | exact rfl) | rfl)); (case' nextoz14 => skip))
      (refine' GG.grow_lit (GG.ApS.still (by decide)) rfl ?wtoz15 ?runoz15 ?putoz15 ?nextoz15; (case wtoz15 => rfl); (case runoz15 => (intro w' hS; (obtain ⟨dn, s, hS⟩ := hS); (have z0 := keep hS.b Z0.out); (have z1 := keep hS.b Z1.out); (have zl := World.block_lt_of_cell? _ _ z0); (obtain ⟨⟨wx, wy⟩, wx2, wy2⟩ := WX.out); clear hS; go_simp; first | done | exact rfl)); (case putoz15 => (first | (simp only [Act.put, List.setIfInBounds_toArray, List.set_cons_zero, List.set_cons_succ]; first | done | exact rfl) | rfl)); (case' nextoz15 => skip))
      (refine' GG.grow_lit (GG.ApS.still (by decide)) rfl ?wtoz16 ?runoz16 ?putoz16 ?nextoz16; (case wtoz16 => rfl); (case runoz16 => (intro w' hS; (obtain ⟨dn, s, hS⟩ := hS); (have z0 := keep hS.b Z0.out); (have z1 := keep hS.b Z1.out); (have zl := World.block_lt_of_cell? _ _ z0); (obtain ⟨⟨wx, wy⟩, wx2, wy2⟩ := WX.out); clear hS; go_simp; first | done | exact rfl)); (case putoz16 => (first | (simp only [Act.put, List.setIfInBounds_toArray, List.set_cons_zero, List.set_cons_succ]; first | done | exact rfl) | rfl)); (case' nextoz16 => skip))
      (refine' GG.grow_lit (GG.ApS.still (by decide)) rfl ?wtoz17 ?runoz17 ?putoz17 ?nextoz17; (case wtoz17 => rfl); (case runoz17 => (intro w' hS; (obtain ⟨dn, s, hS⟩ := hS); (have z0 := keep hS.b Z0.out); (have z1 := keep hS.b Z1.out); (have zl := World.block_lt_of_cell? _ _ z0); (obtain ⟨⟨wx, wy⟩, wx2, wy2⟩ := WX.out); clear hS; go_simp; first | done | exact rfl)); (case putoz17 => (first | (simp only [Act.put, List.setIfInBounds_toArray, List.set_cons_zero, List.set_cons_succ]; first | done | exact rfl) | rfl)); (case' nextoz17 => skip))
      (refine' GG.grow_any_op (p := GG.LitP #[.int .i64 (x + dx), .int .i64 (y + dy)]) (hp := GG.LitP.st #[.int .i64 (x + dx), .int .i64 (y + dy)]) rfl ?wtoz18 ?runoz18 ?putoz18 ?nextoz18; (case wtoz18 => rfl); (case runoz18 => (intro dn s w' hS hd H; (refine ⟨.slice (some ⟨w'.heap.size, 0, none⟩) 1 1, s, w'.alloc (.cells #[.int .i64 (x + dx), .int .i64 (y + dy)] 30), ?_, fun _ => ⟨w'.heap.size, rfl, Blk.new _ _ _ _ rfl⟩, (hS.step (by decide)).old PT.stab (below_alloc1 _), ⟨id, fun _ => below_alloc1 _⟩, (below_alloc1 _).size⟩; clear hS hd H; go_simp))); (case putoz18 => (intro v; (simp only [Act.put, List.setIfInBounds_toArray, List.set_cons_zero, List.set_cons_succ]; first | done | exact rfl))); (case' nextoz18 => intro v18))
      (refine' GG.grow_any_op (p := GG.ApT (fun v w => PT w3 ((movL dx dy (l.take k)) ++ [(x + dx, y + dy)]) v [] (.slice none 0 0) w)) (hp := GG.ApT.st (fun _ => PT.stab)) rfl ?wtoz19 ?runoz19 ?putoz19 ?nextoz19; (case wtoz19 => rfl); (case runoz19 => (intro dn s w' hS hd H; (obtain rfl : s = false := hS.here.symm.trans hd); (obtain ⟨g, e9, kg⟩ := (show GG.LitP #[.int .i64 (x + dx), .int .i64 (y + dy)] v18 false w' from H 18 (by decide)) rfl); (obtain ⟨q', n', c', w7, hr, hP, hz⟩ := (hS.r rfl).app kg HL1.out); subst e9; exact ⟨_, true, w7, GG.exec_append (.tmp 103) (.tmp 121) 22 rfl rfl rfl hr, ⟨rfl, ⟨_, _, _, rfl⟩, hP⟩, ⟨rfl, (fun h => by cases h), hP.b⟩, ⟨fun _ => rfl, fun h => by cases h⟩, hz⟩)); (case putoz19 => (intro v; (simp only [Act.put, List.setIfInBounds_toArray, List.set_cons_zero, List.set_cons_succ]; first | done | exact rfl))); (case' nextoz19 => intro v19))
      intro dn s w7 hS7 _ hk7
      obtain ⟨-, ⟨qz, nz, cz, rfl⟩, hP⟩ : GG.ApT (fun v w => PT w3 ((movL dx dy (l.take k)) ++ [(x + dx, y + dy)]) v [] (.slice none 0 0) w) v19 s w7 := hk7 19 (by decide)
      have HP8 := Lib.hid hP
      clear hk7 hS7 hP SA0
      refine wpAny_ready (rs := [20]) (by kernel_rfl) (by simp) (AllReady.cons rfl (fun K hK => ?_) AllReady.nil)
      go_simp
      refine hK _ _ ?_
      clear hK K
      refine wpAny_done (by kernel_rfl) ?_ _
      go_wp2_with fail
      go_roundw
      case rel => exact ⟨k + 1, hlt, by go_num, by rw [HMS.out]; exact HP8.out⟩
      case measure => simp [intOf]; omega
    obtain ⟨j, hj⟩ : ∃ j, k = j + 1 := ⟨k - 1, by omega⟩
    have hz0 : decide ((0 : Int) < (k : Int)) = true := decide_eq_true (by omega)
    obtain ⟨A0, hA0, hA0n⟩ := HO.out.some (i := j) (by omega)
    have ho2 := ord_two HO.out hA0 (by rw [← hj]; exact HA.out)
    obtain ⟨⟨xb, yb⟩, hxb⟩ : ∃ e, l[A0]? = some e := ⟨_, List.getElem?_eq_getElem hA0n⟩
    rw [kAt_of hxb, kAt_of HXA.out] at ho2
    obtain ⟨ka, hka⟩ : ∃ ka, keyL (xa, ya) D = ka := ⟨_, rfl⟩
    obtain ⟨kb, hkb⟩ : ∃ kb, keyL (xb, yb) D = kb := ⟨_, rfl⟩
    rw [hka, hkb] at ho2
    have HKA := Lib.hid hka
    have HKB := Lib.hid hkb
    have SA := Lib.hid (HSM.out _ (List.mem_of_getElem? HXA.out))
    have SB := Lib.hid (HSM.out _ (List.mem_of_getElem? hxb))
    have HO2 := Lib.hid ho2
    have HJ : Hid (k = j + 1 ∧ j < l.length ∧ A0 < l.length) := Lib.hid ⟨hj, by omega, hA0n⟩
    have WJ : Hid (IntKind.i64.wrap ((k : Int) - 1) = (j : Int)) := Lib.hid (by
      rw [show (k : Int) - 1 = (j : Int) from by omega]
      exact IntWalk.i64_in _ (by omega))
    have hbi : (A0 : Int) < (l.length : Int) := by omega
    have hji : (j : Int) < (l.length : Int) := by omega
    have hjn : j < l.length := by omega
    obtain ⟨b1, s1, e1, pc, pl⟩ := HK.out.atZ HA.out
    injection e1 with e1
    injection e1 with e1 e2
    subst e1 e2
    obtain ⟨b2, s2, e1, qc, ql⟩ := HK.out.atZ hA0
    injection e1 with e1
    injection e1 with e1 e2
    subst e1 e2
    rw [Nat.zero_add] at pc qc
    obtain ⟨eb, eo, he9, a0, a1, al⟩ := HE.out.atP HXA.out
    subst he9
    obtain ⟨eb', eo', e1, b0, b1, bl⟩ := HE.out.atP hxb
    injection e1 with e1
    injection e1 with e1 e2
    subst e1 e2
    clear PC
    have PC := Lib.hid pc
    have QC := Lib.hid qc
    have A0c := Lib.hid a0
    have A1c := Lib.hid a1
    have B0c := Lib.hid b0
    have B1c := Lib.hid b1
    have DS0 : Hid (GG.BelL wa (fun _ => false) () wa.drew) := Lib.hid ⟨(Below.refl _ _).drew⟩
    clear hka hkb ho2 pc pl qc ql a0 a1 al b0 b1 bl hA0 hxb hj
    go_wp2_with fail
    refine' GG.wp_growL _ (GG.BelL wa) [[], [], [], [2], [1, 2, 3], [1, 2, 3, 4], [0, 1, 2, 3, 4, 5], [0, 1, 2, 3, 4, 5, 6], [], [0, 1, 2, 3, 4, 5, 6, 7, 8], [], [], [], [11, 12], [11, 12, 13], [10, 11, 12, 13, 14], [10, 11, 12, 13, 14, 15], [], [0, 1, 2, 3, 4, 5, 6, 7, 8, 9, 10, 11, 12, 13, 14, 15, 16, 17], [0, 1, 2, 3, 4, 5, 6, 7, 8, 9, 10, 11, 12, 13, 14, 15, 16, 17, 18], [0, 1, 2, 3, 4, 5, 6, 7, 8, 9, 10, 11, 12, 13, 14, 15, 16, 17, 18, 19]] (GG.Fact.lit (Rl := GG.RlL) _ :: GG.Fact.lit (Rl := GG.RlL) _ :: GG.Fact.lit (Rl := GG.RlL) _ :: GG.Fact.lit (Rl := GG.RlL) _ :: GG.Fact.lit (Rl := GG.RlL) _ :: GG.Fact.lit (Rl := GG.RlL) _ :: GG.Fact.lit (Rl := GG.RlL) _ :: GG.Fact.lit (Rl := GG.RlL) _ :: GG.Fact.lit (Rl := GG.RlL) _ :: GG.Fact.lit (Rl := GG.RlL) _ :: GG.Fact.lit (Rl := GG.RlL) _ :: GG.Fact.lit (Rl := GG.RlL) _ :: GG.Fact.lit (Rl := GG.RlL) _ :: GG.Fact.lit (Rl := GG.RlL) _ :: GG.Fact.lit (Rl := GG.RlL) _ :: GG.Fact.lit (Rl := GG.RlL) _ :: GG.Fact.lit (Rl := GG.RlL) _ :: GG.Fact.lit (Rl := GG.RlL) _ :: GG.Fact.lit (Rl := GG.RlL) _ :: GG.Fact.lit (Rl := GG.RlL) _ :: GG.Fact.lit (Rl := GG.RlL) _ :: []) (by kernel_rfl) rfl (by kernel_rfl) (()) (DS0.out) ?seqob
    case' seqob => skip
    (refine' GG.grow_lit (GG.BelL.still) rfl ?wtob0 ?runob0 ?putob0 ?nextob0; (case wtob0 => rfl); (case runob0 => (intro w' hS; (obtain ⟨dn, s, hS⟩ := hS); (have pc := keep hS.b PC.out); (have pl := World.block_lt_of_cell? _ _ pc); (have qc := keep hS.b QC.out); (have a0 := keep hS.b A0c.out); (have al := World.block_lt_of_cell? _ _ a0); (have a1 := keep hS.b A1c.out); (have b0 := keep hS.b B0c.out); (have b1 := keep hS.b B1c.out); (have wj := WJ.out); clear hS; go_simp; first | done | exact rfl)); (case putob0 => (first | (simp only [Act.put, List.setIfInBounds_toArray, List.set_cons_zero, List.set_cons_succ]; first | done | exact rfl) | rfl)); (case' nextob0 => skip))
    (refine' GG.grow_lit (GG.BelL.still) rfl ?wtob1 ?runob1 ?putob1 ?nextob1; (case wtob1 => rfl); (case runob1 => (intro w' hS; (obtain ⟨dn, s, hS⟩ := hS); (have pc := keep hS.b PC.out); (have pl := World.block_lt_of_cell? _ _ pc); (have qc := keep hS.b QC.out); (have a0 := keep hS.b A0c.out); (have al := World.block_lt_of_cell? _ _ a0); (have a1 := keep hS.b A1c.out); (have b0 := keep hS.b B0c.out); (have b1 := keep hS.b B1c.out); (have wj := WJ.out); clear hS; go_simp; first | done | exact rfl)); (case putob1 => (first | (simp only [Act.put, List.setIfInBounds_toArray, List.set_cons_zero, List.set_cons_succ]; first | done | exact rfl) | rfl)); (case' nextob1 => skip))
    (refine' GG.grow_lit (GG.BelL.still) rfl ?wtob2 ?runob2 ?putob2 ?nextob2; (case wtob2 => rfl); (case runob2 => (intro w' hS; (obtain ⟨dn, s, hS⟩ := hS); (have pc := keep hS.b PC.out); (have pl := World.block_lt_of_cell? _ _ pc); (have qc := keep hS.b QC.out); (have a0 := keep hS.b A0c.out); (have al := World.block_lt_of_cell? _ _ a0); (have a1 := keep hS.b A1c.out); (have b0 := keep hS.b B0c.out); (have b1 := keep hS.b B1c.out); (have wj := WJ.out); clear hS; go_simp; first | done | exact rfl)); (case putob2 => (first | (simp only [Act.put, List.setIfInBounds_toArray, List.set_cons_zero, List.set_cons_succ]; first | done | exact rfl) | rfl)); (case' nextob2 => skip))
    (refine' GG.grow_lit (GG.BelL.still) rfl ?wtob3 ?runob3 ?putob3 ?nextob3; (case wtob3 => rfl); (case runob3 => (intro w' hS; (obtain ⟨dn, s, hS⟩ := hS); (have pc := keep hS.b PC.out); (have pl := World.block_lt_of_cell? _ _ pc); (have qc := keep hS.b QC.out); (have a0 := keep hS.b A0c.out); (have al := World.block_lt_of_cell? _ _ a0); (have a1 := keep hS.b A1c.out); (have b0 := keep hS.b B0c.out); (have b1 := keep hS.b B1c.out); (have wj := WJ.out); clear hS; go_simp; first | done | exact rfl)); (case putob3 => (first | (simp only [Act.put, List.setIfInBounds_toArray, List.set_cons_zero, List.set_cons_succ]; first | done | exact rfl) | rfl)); (case' nextob3 => skip))
    (refine' GG.grow_lit (GG.BelL.still) rfl ?wtob4 ?runob4 ?putob4 ?nextob4; (case wtob4 => rfl); (case runob4 => (intro w' hS; (obtain ⟨dn, s, hS⟩ := hS); (have pc := keep hS.b PC.out); (have pl := World.block_lt_of_cell? _ _ pc); (have qc := keep hS.b QC.out); (have a0 := keep hS.b A0c.out); (have al := World.block_lt_of_cell? _ _ a0); (have a1 := keep hS.b A1c.out); (have b0 := keep hS.b B0c.out); (have b1 := keep hS.b B1c.out); (have wj := WJ.out); clear hS; go_simp; first | done | exact rfl)); (case putob4 => (first | (simp only [Act.put, List.setIfInBounds_toArray, List.set_cons_zero, List.set_cons_succ]; first | done | exact rfl) | rfl)); (case' nextob4 => skip))
    (refine' GG.grow_lit (GG.BelL.still) rfl ?wtob5 ?runob5 ?putob5 ?nextob5; (case wtob5 => rfl); (case runob5 => (intro w' hS; (obtain ⟨dn, s, hS⟩ := hS); (have pc := keep hS.b PC.out); (have pl := World.block_lt_of_cell? _ _ pc); (have qc := keep hS.b QC.out); (have a0 := keep hS.b A0c.out); (have al := World.block_lt_of_cell? _ _ a0); (have a1 := keep hS.b A1c.out); (have b0 := keep hS.b B0c.out); (have b1 := keep hS.b B1c.out); (have wj := WJ.out); clear hS; go_simp; first | done | exact rfl)); (case putob5 => (first | (simp only [Act.put, List.setIfInBounds_toArray, List.set_cons_zero, List.set_cons_succ]; first | done | exact rfl) | rfl)); (case' nextob5 => skip))
    (refine' GG.grow_lit (GG.BelL.still) rfl ?wtob6 ?runob6 ?putob6 ?nextob6; (case wtob6 => rfl); (case runob6 => (intro w' hS; (obtain ⟨dn, s, hS⟩ := hS); (have pc := keep hS.b PC.out); (have pl := World.block_lt_of_cell? _ _ pc); (have qc := keep hS.b QC.out); (have a0 := keep hS.b A0c.out); (have al := World.block_lt_of_cell? _ _ a0); (have a1 := keep hS.b A1c.out); (have b0 := keep hS.b B0c.out); (have b1 := keep hS.b B1c.out); (have wj := WJ.out); clear hS; go_simp; first | done | exact rfl)); (case putob6 => (first | (simp only [Act.put, List.setIfInBounds_toArray, List.set_cons_zero, List.set_cons_succ]; first | done | exact rfl) | rfl)); (case' nextob6 => skip))
    (refine' GG.grow_lit (GG.BelL.still) rfl ?wtob7 ?runob7 ?putob7 ?nextob7; (case wtob7 => rfl); (case runob7 => (intro w' hS; (obtain ⟨dn, s, hS⟩ := hS); (have pc := keep hS.b PC.out); (have pl := World.block_lt_of_cell? _ _ pc); (have qc := keep hS.b QC.out); (have a0 := keep hS.b A0c.out); (have al := World.block_lt_of_cell? _ _ a0); (have a1 := keep hS.b A1c.out); (have b0 := keep hS.b B0c.out); (have b1 := keep hS.b B1c.out); (have wj := WJ.out); clear hS; go_simp; first | done | exact rfl)); (case putob7 => (first | (simp only [Act.put, List.setIfInBounds_toArray, List.set_cons_zero, List.set_cons_succ]; first | done | exact rfl) | rfl)); (case' nextob7 => skip))
    (refine' GG.grow_lit (GG.BelL.still) rfl ?wtob8 ?runob8 ?putob8 ?nextob8; (case wtob8 => rfl); (case runob8 => (intro w' hS; (obtain ⟨dn, s, hS⟩ := hS); (have pc := keep hS.b PC.out); (have pl := World.block_lt_of_cell? _ _ pc); (have qc := keep hS.b QC.out); (have a0 := keep hS.b A0c.out); (have al := World.block_lt_of_cell? _ _ a0); (have a1 := keep hS.b A1c.out); (have b0 := keep hS.b B0c.out); (have b1 := keep hS.b B1c.out); (have wj := WJ.out); clear hS; go_simp; first | done | exact rfl)); (case putob8 => (first | (simp only [Act.put, List.setIfInBounds_toArray, List.set_cons_zero, List.set_cons_succ]; first | done | exact rfl) | rfl)); (case' nextob8 => skip))
    (refine' GG.grow_lit_call (u := .int .i64 kb) rfl Try.func10 (by kernel_rfl) rfl rfl ?wtob9 ?runob9 ?putob9 ?nextob9; (case wtob9 => rfl); (case runob9 => (intro dn s w' hS hd H; exact (key_is xb yb D w' SB.out HKB.out).mono (fun e w2 h => ⟨(), h.1, ⟨hS.b.trans (h.2.below.mono hS.b.size)⟩, h.2.below, h.2.below.size⟩))); (case putob9 => (first | (simp only [Act.put, List.setIfInBounds_toArray, List.set_cons_zero, List.set_cons_succ]; first | done | exact rfl) | rfl)); (case' nextob9 => skip))
    (refine' GG.grow_lit (GG.BelL.still) rfl ?wtob10 ?runob10 ?putob10 ?nextob10; (case wtob10 => rfl); (case runob10 => (intro w' hS; (obtain ⟨dn, s, hS⟩ := hS); (have pc := keep hS.b PC.out); (have pl := World.block_lt_of_cell? _ _ pc); (have qc := keep hS.b QC.out); (have a0 := keep hS.b A0c.out); (have al := World.block_lt_of_cell? _ _ a0); (have a1 := keep hS.b A1c.out); (have b0 := keep hS.b B0c.out); (have b1 := keep hS.b B1c.out); (have wj := WJ.out); clear hS; go_simp; first | done | exact rfl)); (case putob10 => (first | (simp only [Act.put, List.setIfInBounds_toArray, List.set_cons_zero, List.set_cons_succ]; first | done | exact rfl) | rfl)); (case' nextob10 => skip))
    (refine' GG.grow_lit (GG.BelL.still) rfl ?wtob11 ?runob11 ?putob11 ?nextob11; (case wtob11 => rfl); (case runob11 => (intro w' hS; (obtain ⟨dn, s, hS⟩ := hS); (have pc := keep hS.b PC.out); (have pl := World.block_lt_of_cell? _ _ pc); (have qc := keep hS.b QC.out); (have a0 := keep hS.b A0c.out); (have al := World.block_lt_of_cell? _ _ a0); (have a1 := keep hS.b A1c.out); (have b0 := keep hS.b B0c.out); (have b1 := keep hS.b B1c.out); (have wj := WJ.out); clear hS; go_simp; first | done | exact rfl)); (case putob11 => (first | (simp only [Act.put, List.setIfInBounds_toArray, List.set_cons_zero, List.set_cons_succ]; first | done | exact rfl) | rfl)); (case' nextob11 => skip))
    (refine' GG.grow_lit (GG.BelL.still) rfl ?wtob12 ?runob12 ?putob12 ?nextob12; (case wtob12 => rfl); (case runob12 => (intro w' hS; (obtain ⟨dn, s, hS⟩ := hS); (have pc := keep hS.b PC.out); (have pl := World.block_lt_of_cell? _ _ pc); (have qc := keep hS.b QC.out); (have a0 := keep hS.b A0c.out); (have al := World.block_lt_of_cell? _ _ a0); (have a1 := keep hS.b A1c.out); (have b0 := keep hS.b B0c.out); (have b1 := keep hS.b B1c.out); (have wj := WJ.out); clear hS; go_simp; first | done | exact rfl)); (case putob12 => (first | (simp only [Act.put, List.setIfInBounds_toArray, List.set_cons_zero, List.set_cons_succ]; first | done | exact rfl) | rfl)); (case' nextob12 => skip))
    (refine' GG.grow_lit (GG.BelL.still) rfl ?wtob13 ?runob13 ?putob13 ?nextob13; (case wtob13 => rfl); (case runob13 => (intro w' hS; (obtain ⟨dn, s, hS⟩ := hS); (have pc := keep hS.b PC.out); (have pl := World.block_lt_of_cell? _ _ pc); (have qc := keep hS.b QC.out); (have a0 := keep hS.b A0c.out); (have al := World.block_lt_of_cell? _ _ a0); (have a1 := keep hS.b A1c.out); (have b0 := keep hS.b B0c.out); (have b1 := keep hS.b B1c.out); (have wj := WJ.out); clear hS; go_simp; first | done | exact rfl)); (case putob13 => (first | (simp only [Act.put, List.setIfInBounds_toArray, List.set_cons_zero, List.set_cons_succ]; first | done | exact rfl) | rfl)); (case' nextob13 => skip))
    (refine' GG.grow_lit (GG.BelL.still) rfl ?wtob14 ?runob14 ?putob14 ?nextob14; (case wtob14 => rfl); (case runob14 => (intro w' hS; (obtain ⟨dn, s, hS⟩ := hS); (have pc := keep hS.b PC.out); (have pl := World.block_lt_of_cell? _ _ pc); (have qc := keep hS.b QC.out); (have a0 := keep hS.b A0c.out); (have al := World.block_lt_of_cell? _ _ a0); (have a1 := keep hS.b A1c.out); (have b0 := keep hS.b B0c.out); (have b1 := keep hS.b B1c.out); (have wj := WJ.out); clear hS; go_simp; first | done | exact rfl)); (case putob14 => (first | (simp only [Act.put, List.setIfInBounds_toArray, List.set_cons_zero, List.set_cons_succ]; first | done | exact rfl) | rfl)); (case' nextob14 => skip))
    (refine' GG.grow_lit (GG.BelL.still) rfl ?wtob15 ?runob15 ?putob15 ?nextob15; (case wtob15 => rfl); (case runob15 => (intro w' hS; (obtain ⟨dn, s, hS⟩ := hS); (have pc := keep hS.b PC.out); (have pl := World.block_lt_of_cell? _ _ pc); (have qc := keep hS.b QC.out); (have a0 := keep hS.b A0c.out); (have al := World.block_lt_of_cell? _ _ a0); (have a1 := keep hS.b A1c.out); (have b0 := keep hS.b B0c.out); (have b1 := keep hS.b B1c.out); (have wj := WJ.out); clear hS; go_simp; first | done | exact rfl)); (case putob15 => (first | (simp only [Act.put, List.setIfInBounds_toArray, List.set_cons_zero, List.set_cons_succ]; first | done | exact rfl) | rfl)); (case' nextob15 => skip))
    (refine' GG.grow_lit (GG.BelL.still) rfl ?wtob16 ?runob16 ?putob16 ?nextob16; (case wtob16 => rfl); (case runob16 => (intro w' hS; (obtain ⟨dn, s, hS⟩ := hS); (have pc := keep hS.b PC.out); (have pl := World.block_lt_of_cell? _ _ pc); (have qc := keep hS.b QC.out); (have a0 := keep hS.b A0c.out); (have al := World.block_lt_of_cell? _ _ a0); (have a1 := keep hS.b A1c.out); (have b0 := keep hS.b B0c.out); (have b1 := keep hS.b B1c.out); (have wj := WJ.out); clear hS; go_simp; first | done | exact rfl)); (case putob16 => (first | (simp only [Act.put, List.setIfInBounds_toArray, List.set_cons_zero, List.set_cons_succ]; first | done | exact rfl) | rfl)); (case' nextob16 => skip))
    (refine' GG.grow_lit (GG.BelL.still) rfl ?wtob17 ?runob17 ?putob17 ?nextob17; (case wtob17 => rfl); (case runob17 => (intro w' hS; (obtain ⟨dn, s, hS⟩ := hS); (have pc := keep hS.b PC.out); (have pl := World.block_lt_of_cell? _ _ pc); (have qc := keep hS.b QC.out); (have a0 := keep hS.b A0c.out); (have al := World.block_lt_of_cell? _ _ a0); (have a1 := keep hS.b A1c.out); (have b0 := keep hS.b B0c.out); (have b1 := keep hS.b B1c.out); (have wj := WJ.out); clear hS; go_simp; first | done | exact rfl)); (case putob17 => (first | (simp only [Act.put, List.setIfInBounds_toArray, List.set_cons_zero, List.set_cons_succ]; first | done | exact rfl) | rfl)); (case' nextob17 => skip))
    (refine' GG.grow_lit_call (u := .int .i64 ka) rfl Try.func10 (by kernel_rfl) rfl rfl ?wtob18 ?runob18 ?putob18 ?nextob18; (case wtob18 => rfl); (case runob18 => (intro dn s w' hS hd H; exact (key_is xa ya D w' SA.out HKA.out).mono (fun e w2 h => ⟨(), h.1, ⟨hS.b.trans (h.2.below.mono hS.b.size)⟩, h.2.below, h.2.below.size⟩))); (case putob18 => (first | (simp only [Act.put, List.setIfInBounds_toArray, List.set_cons_zero, List.set_cons_succ]; first | done | exact rfl) | rfl)); (case' nextob18 => skip))
    (refine' GG.grow_lit (GG.BelL.still) rfl ?wtob19 ?runob19 ?putob19 ?nextob19; (case wtob19 => rfl); (case runob19 => (intro w' hS; (obtain ⟨dn, s, hS⟩ := hS); (have pc := keep hS.b PC.out); (have pl := World.block_lt_of_cell? _ _ pc); (have qc := keep hS.b QC.out); (have a0 := keep hS.b A0c.out); (have al := World.block_lt_of_cell? _ _ a0); (have a1 := keep hS.b A1c.out); (have b0 := keep hS.b B0c.out); (have b1 := keep hS.b B1c.out); (have wj := WJ.out); clear hS; go_simp; first | done | exact rfl)); (case putob19 => (first | (simp only [Act.put, List.setIfInBounds_toArray, List.set_cons_zero, List.set_cons_succ]; first | done | exact rfl) | rfl)); (case' nextob19 => skip))
    (refine' GG.grow_lit (GG.BelL.still) rfl ?wtob20 ?runob20 ?putob20 ?nextob20; (case wtob20 => rfl); (case runob20 => (intro w' hS; (obtain ⟨dn, s, hS⟩ := hS); (have pc := keep hS.b PC.out); (have pl := World.block_lt_of_cell? _ _ pc); (have qc := keep hS.b QC.out); (have a0 := keep hS.b A0c.out); (have al := World.block_lt_of_cell? _ _ a0); (have a1 := keep hS.b A1c.out); (have b0 := keep hS.b B0c.out); (have b1 := keep hS.b B1c.out); (have wj := WJ.out); clear hS; go_simp; first | done | exact rfl)); (case putob20 => (first | (simp only [Act.put, List.setIfInBounds_toArray, List.set_cons_zero, List.set_cons_succ]; first | done | exact rfl) | rfl)); (case' nextob20 => skip))
    intro dn s wb hS _ _
    have PC2 := Lib.hid (keep hS.b PC.out)
    have QC2 := Lib.hid (keep hS.b QC.out)
    clear PC QC
    have PC := PC2
    have QC := QC2
    clear PC2 QC2
    have hb := hS.b
    clear hS DS0
    have HB_ := Lib.hid (bOn6 HB.out hb)
    have HE_ := Lib.hid (HE.out.below hb)
    have HK_ := Lib.hid (HK.out.below hb)
    clear HB HE HK
    have HB := HB_
    have HE := HE_
    have HK := HK_
    clear HB_ HE_ HK_
    have HM_ := Lib.hid (PT.stab _ _ HM.out hb)
    clear HM
    have HM := HM_
    clear HM_
    clear hb A0c A1c B0c B1c
    have DS0 : Hid (GG.BelL wb (fun _ => false) () wb.drew) := Lib.hid ⟨(Below.refl _ _).drew⟩
    rcases HO2.out with ho | ⟨ho, hoa⟩
    · have HF : Hid (decide (ka < kb) = false ∧ (kb == ka) = false) := Lib.hid ⟨decide_eq_false (by omega), by simp only [beq_eq_false_iff_ne]; omega⟩
      clear ho HO2
      go_wp2_with fail
      refine' GG.wp_growL _ (GG.BelL wb) [[], [], [0, 1], [0, 1, 2], [0, 1, 2, 3], [0, 1, 2, 3], [0, 1, 2, 3, 4, 5], [0, 1, 2, 3, 4, 5, 6], [0, 1, 2, 3, 4, 5, 6, 7], [0, 1, 2, 3, 4, 5, 6, 7], [0, 1, 2, 3, 4, 5, 6, 7, 9], [0, 1, 2, 3, 4, 5, 6, 7, 8, 9, 10], [0, 1, 2, 3, 4, 5, 6, 7, 8, 9, 10, 11], [0, 1, 2, 3, 4, 5, 6, 7], [0, 1, 2, 3, 4, 5, 6, 7], [0, 1, 2, 3, 4, 5, 6, 7, 13, 14], [0, 1, 2, 3, 4, 5, 6, 7, 13, 14, 15], [0, 1, 2, 3, 4, 5, 6, 7, 8, 9, 10, 11, 12, 13, 14, 15, 16], [0, 1, 2, 3, 4, 5, 6, 7, 8, 9, 10, 11, 12, 13, 14, 15, 16, 17], [0, 1, 2, 3, 4, 5, 6, 7, 8, 9, 10, 11, 12, 13, 14, 15, 16, 17, 18]] (GG.Fact.lit (Rl := GG.RlL) _ :: GG.Fact.lit (Rl := GG.RlL) _ :: GG.Fact.lit (Rl := GG.RlL) _ :: GG.Fact.lit (Rl := GG.RlL) _ :: GG.Fact.lit (Rl := GG.RlL) _ :: GG.Fact.lit (Rl := GG.RlL) _ :: GG.Fact.lit (Rl := GG.RlL) _ :: GG.Fact.lit (Rl := GG.RlL) _ :: GG.Fact.lit (Rl := GG.RlL) _ :: GG.Fact.lit (Rl := GG.RlL) _ :: GG.Fact.lit (Rl := GG.RlL) _ :: GG.Fact.lit (Rl := GG.RlL) _ :: GG.Fact.lit (Rl := GG.RlL) _ :: GG.Fact.lit (Rl := GG.RlL) _ :: GG.Fact.lit (Rl := GG.RlL) _ :: GG.Fact.lit (Rl := GG.RlL) _ :: GG.Fact.lit (Rl := GG.RlL) _ :: GG.Fact.lit (Rl := GG.RlL) _ :: GG.Fact.lit (Rl := GG.RlL) _ :: GG.Fact.lit (Rl := GG.RlL) _ :: []) (by kernel_rfl) rfl (by kernel_rfl) (()) (DS0.out) ?seqoc
      case' seqoc => skip
      (refine' GG.grow_lit (GG.BelL.still) rfl ?wtoc0 ?runoc0 ?putoc0 ?nextoc0; (case wtoc0 => rfl); (case runoc0 => (intro w' hS; (obtain ⟨dn, s, hS⟩ := hS); (have pc := keep hS.b PC.out); (have pl := World.block_lt_of_cell? _ _ pc); (have qc := keep hS.b QC.out); (have wj := WJ.out); (obtain ⟨f1, f2⟩ := HF.out); clear hS; go_simp; first | done | exact rfl)); (case putoc0 => (first | (simp only [Act.put, List.setIfInBounds_toArray, List.set_cons_zero, List.set_cons_succ]; first | done | exact rfl) | rfl)); (case' nextoc0 => skip))
      (refine' GG.grow_lit (GG.BelL.still) rfl ?wtoc1 ?runoc1 ?putoc1 ?nextoc1; (case wtoc1 => rfl); (case runoc1 => (intro w' hS; (obtain ⟨dn, s, hS⟩ := hS); (have pc := keep hS.b PC.out); (have pl := World.block_lt_of_cell? _ _ pc); (have qc := keep hS.b QC.out); (have wj := WJ.out); (obtain ⟨f1, f2⟩ := HF.out); clear hS; go_simp; first | done | exact rfl)); (case putoc1 => (first | (simp only [Act.put, List.setIfInBounds_toArray, List.set_cons_zero, List.set_cons_succ]; first | done | exact rfl) | rfl)); (case' nextoc1 => skip))
      (refine' GG.grow_lit (GG.BelL.still) rfl ?wtoc2 ?runoc2 ?putoc2 ?nextoc2; (case wtoc2 => rfl); (case runoc2 => (intro w' hS; (obtain ⟨dn, s, hS⟩ := hS); (have pc := keep hS.b PC.out); (have pl := World.block_lt_of_cell? _ _ pc); (have qc := keep hS.b QC.out); (have wj := WJ.out); (obtain ⟨f1, f2⟩ := HF.out); clear hS; go_simp; first | done | exact rfl)); (case putoc2 => (first | (simp only [Act.put, List.setIfInBounds_toArray, List.set_cons_zero, List.set_cons_succ]; first | done | exact rfl) | rfl)); (case' nextoc2 => skip))
      (refine' GG.grow_lit (GG.BelL.still) rfl ?wtoc3 ?runoc3 ?putoc3 ?nextoc3; (case wtoc3 => rfl); (case runoc3 => (intro w' hS; (obtain ⟨dn, s, hS⟩ := hS); (have pc := keep hS.b PC.out); (have pl := World.block_lt_of_cell? _ _ pc); (have qc := keep hS.b QC.out); (have wj := WJ.out); (obtain ⟨f1, f2⟩ := HF.out); clear hS; go_simp; first | done | exact rfl)); (case putoc3 => (first | (simp only [Act.put, List.setIfInBounds_toArray, List.set_cons_zero, List.set_cons_succ]; first | done | exact rfl) | rfl)); (case' nextoc3 => skip))
      (refine' GG.grow_lit (GG.BelL.still) rfl ?wtoc4 ?runoc4 ?putoc4 ?nextoc4; (case wtoc4 => rfl); (case runoc4 => (intro w' hS; (obtain ⟨dn, s, hS⟩ := hS); (have pc := keep hS.b PC.out); (have pl := World.block_lt_of_cell? _ _ pc); (have qc := keep hS.b QC.out); (have wj := WJ.out); (obtain ⟨f1, f2⟩ := HF.out); clear hS; go_simp; first | done | exact rfl)); (case putoc4 => (first | (simp only [Act.put, List.setIfInBounds_toArray, List.set_cons_zero, List.set_cons_succ]; first | done | exact rfl) | rfl)); (case' nextoc4 => skip))
      (refine' GG.grow_lit (GG.BelL.still) rfl ?wtoc5 ?runoc5 ?putoc5 ?nextoc5; (case wtoc5 => rfl); (case runoc5 => (intro w' hS; (obtain ⟨dn, s, hS⟩ := hS); (have pc := keep hS.b PC.out); (have pl := World.block_lt_of_cell? _ _ pc); (have qc := keep hS.b QC.out); (have wj := WJ.out); (obtain ⟨f1, f2⟩ := HF.out); clear hS; go_simp; first | done | exact rfl)); (case putoc5 => (first | (simp only [Act.put, List.setIfInBounds_toArray, List.set_cons_zero, List.set_cons_succ]; first | done | exact rfl) | rfl)); (case' nextoc5 => skip))
      (refine' GG.grow_lit (GG.BelL.still) rfl ?wtoc6 ?runoc6 ?putoc6 ?nextoc6; (case wtoc6 => rfl); (case runoc6 => (intro w' hS; (obtain ⟨dn, s, hS⟩ := hS); (have pc := keep hS.b PC.out); (have pl := World.block_lt_of_cell? _ _ pc); (have qc := keep hS.b QC.out); (have wj := WJ.out); (obtain ⟨f1, f2⟩ := HF.out); clear hS; go_simp; first | done | exact rfl)); (case putoc6 => (first | (simp only [Act.put, List.setIfInBounds_toArray, List.set_cons_zero, List.set_cons_succ]; first | done | exact rfl) | rfl)); (case' nextoc6 => skip))
      (refine' GG.grow_lit (GG.BelL.still) rfl ?wtoc7 ?runoc7 ?putoc7 ?nextoc7; (case wtoc7 => rfl); (case runoc7 => (intro w' hS; (obtain ⟨dn, s, hS⟩ := hS); (have pc := keep hS.b PC.out); (have pl := World.block_lt_of_cell? _ _ pc); (have qc := keep hS.b QC.out); (have wj := WJ.out); (obtain ⟨f1, f2⟩ := HF.out); clear hS; go_simp; first | done | exact rfl)); (case putoc7 => (first | (simp only [Act.put, List.setIfInBounds_toArray, List.set_cons_zero, List.set_cons_succ]; first | done | exact rfl) | rfl)); (case' nextoc7 => skip))
      (refine' GG.grow_skip (GG.BelL.still) rfl ?wtoc8 ?putoc8 ?nextoc8; (case wtoc8 => rfl); (case putoc8 => (first | (simp only [Act.put, List.setIfInBounds_toArray, List.set_cons_zero, List.set_cons_succ]; first | done | exact rfl) | rfl)); (case' nextoc8 => skip))
      (refine' GG.grow_skip (GG.BelL.still) rfl ?wtoc9 ?putoc9 ?nextoc9; (case wtoc9 => rfl); (case putoc9 => (first | (simp only [Act.put, List.setIfInBounds_toArray, List.set_cons_zero, List.set_cons_succ]; first | done | exact rfl) | rfl)); (case' nextoc9 => skip))
      (refine' GG.grow_skip (GG.BelL.still) rfl ?wtoc10 ?putoc10 ?nextoc10; (case wtoc10 => rfl); (case putoc10 => (first | (simp only [Act.put, List.setIfInBounds_toArray, List.set_cons_zero, List.set_cons_succ]; first | done | exact rfl) | rfl)); (case' nextoc10 => skip))
      (refine' GG.grow_skip (GG.BelL.still) rfl ?wtoc11 ?putoc11 ?nextoc11; (case wtoc11 => rfl); (case putoc11 => (first | (simp only [Act.put, List.setIfInBounds_toArray, List.set_cons_zero, List.set_cons_succ]; first | done | exact rfl) | rfl)); (case' nextoc11 => skip))
      (refine' GG.grow_skip (GG.BelL.still) rfl ?wtoc12 ?putoc12 ?nextoc12; (case wtoc12 => rfl); (case putoc12 => (first | (simp only [Act.put, List.setIfInBounds_toArray, List.set_cons_zero, List.set_cons_succ]; first | done | exact rfl) | rfl)); (case' nextoc12 => skip))
      (refine' GG.grow_skip (GG.BelL.still) rfl ?wtoc13 ?putoc13 ?nextoc13; (case wtoc13 => rfl); (case putoc13 => (first | (simp only [Act.put, List.setIfInBounds_toArray, List.set_cons_zero, List.set_cons_succ]; first | done | exact rfl) | rfl)); (case' nextoc13 => skip))
      (refine' GG.grow_skip (GG.BelL.still) rfl ?wtoc14 ?putoc14 ?nextoc14; (case wtoc14 => rfl); (case putoc14 => (first | (simp only [Act.put, List.setIfInBounds_toArray, List.set_cons_zero, List.set_cons_succ]; first | done | exact rfl) | rfl)); (case' nextoc14 => skip))
      (refine' GG.grow_skip (GG.BelL.still) rfl ?wtoc15 ?putoc15 ?nextoc15; (case wtoc15 => rfl); (case putoc15 => (first | (simp only [Act.put, List.setIfInBounds_toArray, List.set_cons_zero, List.set_cons_succ]; first | done | exact rfl) | rfl)); (case' nextoc15 => skip))
      (refine' GG.grow_skip (GG.BelL.still) rfl ?wtoc16 ?putoc16 ?nextoc16; (case wtoc16 => rfl); (case putoc16 => (first | (simp only [Act.put, List.setIfInBounds_toArray, List.set_cons_zero, List.set_cons_succ]; first | done | exact rfl) | rfl)); (case' nextoc16 => skip))
      (refine' GG.grow_skip (GG.BelL.still) rfl ?wtoc17 ?putoc17 ?nextoc17; (case wtoc17 => rfl); (case putoc17 => (first | (simp only [Act.put, List.setIfInBounds_toArray, List.set_cons_zero, List.set_cons_succ]; first | done | exact rfl) | rfl)); (case' nextoc17 => skip))
      (refine' GG.grow_lit (GG.BelL.still) rfl ?wtoc18 ?runoc18 ?putoc18 ?nextoc18; (case wtoc18 => rfl); (case runoc18 => (intro w' hS; (obtain ⟨dn, s, hS⟩ := hS); (have pc := keep hS.b PC.out); (have pl := World.block_lt_of_cell? _ _ pc); (have qc := keep hS.b QC.out); (have wj := WJ.out); (obtain ⟨f1, f2⟩ := HF.out); clear hS; go_simp; first | done | exact rfl)); (case putoc18 => (first | (simp only [Act.put, List.setIfInBounds_toArray, List.set_cons_zero, List.set_cons_succ]; first | done | exact rfl) | rfl)); (case' nextoc18 => skip))
      (refine' GG.grow_lit (GG.BelL.still) rfl ?wtoc19 ?runoc19 ?putoc19 ?nextoc19; (case wtoc19 => rfl); (case runoc19 => (intro w' hS; (obtain ⟨dn, s, hS⟩ := hS); (have pc := keep hS.b PC.out); (have pl := World.block_lt_of_cell? _ _ pc); (have qc := keep hS.b QC.out); (have wj := WJ.out); (obtain ⟨f1, f2⟩ := HF.out); clear hS; go_simp; first | done | exact rfl)); (case putoc19 => (first | (simp only [Act.put, List.setIfInBounds_toArray, List.set_cons_zero, List.set_cons_succ]; first | done | exact rfl) | rfl)); (case' nextoc19 => skip))
      intro dn s wc hS _ _
      have hb := hS.b
      clear hS DS0
      have HB_ := Lib.hid (bOn6 HB.out hb)
      have HE_ := Lib.hid (HE.out.below hb)
      have HK_ := Lib.hid (HK.out.below hb)
      clear HB HE HK
      have HB := HB_
      have HE := HE_
      have HK := HK_
      clear HB_ HE_ HK_
      have HM_ := Lib.hid (PT.stab _ _ HM.out hb)
      clear HM
      have HM := HM_
      clear HM_
      clear hb
      clear HF PC QC
      go_wp2_with fail
      obtain ⟨eb, eo, he9, z0, z1, -⟩ := HE3.out.atP HXY.out
      injection he9 with he9
      injection he9 with e1 e2
      subst e1 e2
      have Z0 := Lib.hid z0
      have Z1 := Lib.hid z1
      have HMS := Lib.hid (movL_snoc (dx := dx) (dy := dy) hlt (List.getElem?_eq_some_iff.1 HXY.out).2)
      obtain ⟨⟨s0, s1⟩, s2, s3⟩ := HSM.out _ (List.mem_of_getElem? HXY.out)
      obtain ⟨⟨t0, t1⟩, t2, t3⟩ := HDX.out
      simp only at s0 s1 s2 s3
      have WX : Hid ((IntKind.i64.wrap dx = dx ∧ IntKind.i64.wrap dy = dy) ∧ IntKind.i64.wrap (x + dx) = x + dx ∧ IntKind.i64.wrap (y + dy) = y + dy) := Lib.hid ⟨⟨IntWalk.i64_in _ (by omega), IntWalk.i64_in _ (by omega)⟩, IntWalk.i64_in _ (by omega), IntWalk.i64_in _ (by omega)⟩
      have HL1 : Hid ((movL dx dy (l.take k)).length ≤ 100000) := Lib.hid (by rw [movL_len, List.length_take]; omega)
      have SA0 : Hid (GG.ApS 19 (PT w3 (movL dx dy (l.take k)) u11 [] (.slice none 0 0)) w3 (fun _ => false) false wc.drew) := Lib.hid ⟨rfl, fun _ => PT.stab _ _ HM.out (Below.refl _ _).drew, HM.out.b.drew⟩
      have hwk : IntKind.i64.wrap ((k : Int) + 1) = (k : Int) + 1 := IntWalk.i64_in _ (by omega)
      clear z0 z1 s0 s1 s2 s3 t0 t1 t2 t3
      go_wp2_with fail
      refine' GG.wp_thenL _ 20 (GG.ApS 19 (PT w3 (movL dx dy (l.take k)) u11 [] (.slice none 0 0)) w3) [[], [], [], [1, 2], [1, 2, 3], [1, 2, 3, 4], [], [6], [1, 2, 3, 4, 5, 6, 7], [], [], [9, 10], [9, 10, 11], [9, 10, 11, 12], [], [14], [9, 10, 11, 12, 13, 14, 15], [1, 2, 3, 4, 5, 6, 7, 8, 9, 10, 11, 12, 13, 14, 15, 16], [1, 2, 3, 4, 5, 6, 7, 8, 9, 10, 11, 12, 13, 14, 15, 16, 17], [0, 1, 2, 3, 4, 5, 6, 7, 8, 9, 10, 11, 12, 13, 14, 15, 16, 17, 18]] (GG.Fact.lit (Rl := GG.RlA) _ :: GG.Fact.lit (Rl := GG.RlA) _ :: GG.Fact.lit (Rl := GG.RlA) _ :: GG.Fact.lit (Rl := GG.RlA) _ :: GG.Fact.lit (Rl := GG.RlA) _ :: GG.Fact.lit (Rl := GG.RlA) _ :: GG.Fact.lit (Rl := GG.RlA) _ :: GG.Fact.lit (Rl := GG.RlA) _ :: GG.Fact.lit (Rl := GG.RlA) _ :: GG.Fact.lit (Rl := GG.RlA) _ :: GG.Fact.lit (Rl := GG.RlA) _ :: GG.Fact.lit (Rl := GG.RlA) _ :: GG.Fact.lit (Rl := GG.RlA) _ :: GG.Fact.lit (Rl := GG.RlA) _ :: GG.Fact.lit (Rl := GG.RlA) _ :: GG.Fact.lit (Rl := GG.RlA) _ :: GG.Fact.lit (Rl := GG.RlA) _ :: GG.Fact.lit (Rl := GG.RlA) _ :: GG.Fact.prop (Rl := GG.RlA) _ _ :: GG.Fact.prop (Rl := GG.RlA) _ _ :: []) (by kernel_rfl) rfl (by kernel_rfl) (false) (SA0.out) ?seqoe
      case' seqoe => skip
      (refine' GG.grow_lit (GG.ApS.still (by decide)) rfl ?wtoe0 ?runoe0 ?putoe0 ?nextoe0; (case wtoe0 => rfl); (case runoe0 => (intro w' hS; (obtain ⟨dn, s, hS⟩ := hS); (have z0 := keep hS.b Z0.out); (have z1 := keep hS.b Z1.out); (have zl := World.block_lt_of_cell? _ _ z0); (obtain ⟨⟨wx, wy⟩, wx2, wy2⟩ := WX.out); clear hS; go_simp; first | done | exact rfl)); (case putoe0 => (first | (simp only [Act.put, List.setIfInBounds_toArray, List.set_cons_zero, List.set_cons_succ]; first | done | exact rfl) | rfl)); (case' nextoe0 => skip))
      (refine' GG.grow_lit (GG.ApS.still (by decide)) rfl ?wtoe1 ?runoe1 ?putoe1 ?nextoe1; (case wtoe1 => rfl); (case runoe1 => (intro w' hS; (obtain ⟨dn, s, hS⟩ := hS); (have z0 := keep hS.b Z0.out); (have z1 := keep hS.b Z1.out); (have zl := World.block_lt_of_cell? _ _ z0); (obtain ⟨⟨wx, wy⟩, wx2, wy2⟩ := WX.out); clear hS; go_simp; first | done | exact rfl)); (case putoe1 => (first | (simp only [Act.put, List.setIfInBounds_toArray, List.set_cons_zero, List.set_cons_succ]; first | done | exact rfl) | rfl)); (case' nextoe1 => skip))
      (refine' GG.grow_lit (GG.ApS.still (by decide)) rfl ?wtoe2 ?runoe2 ?putoe2 ?nextoe2; (case wtoe2 => rfl); (case runoe2 => (intro w' hS; (obtain ⟨dn, s, hS⟩ := hS); (have z0 := keep hS.b Z0.out); (have z1 := keep hS.b Z1.out); (have zl := World.block_lt_of_cell? _ _ z0); (obtain ⟨⟨wx, wy⟩, wx2, wy2⟩ := WX.out); clear hS; go_simp; first | done | exact rfl)); (case putoe2 => (first | (simp only [Act.put, List.setIfInBounds_toArray, List.set_cons_zero, List.set_cons_succ]; first | done | exact rfl) | rfl)); (case' nextoe2 => skip))
      (refine' GG.grow_lit (GG.ApS.still (by decide)) rfl ?wtoe3 ?runoe3 ?putoe3 ?nextoe3; (case wtoe3 => rfl); (case runoe3 => (intro w' hS; (obtain ⟨dn, s, hS⟩ := hS); (have z0 := keep hS.b Z0.out); (have z1 := keep hS.b Z1.out); (have zl := World.block_lt_of_cell? _ _ z0); (obtain ⟨⟨wx, wy⟩, wx2, wy2⟩ := WX.out); clear hS; go_simp; first | done | exact rfl)); (case putoe3 => (first | (simp only [Act.put, List.setIfInBounds_toArray, List.set_cons_zero, List.set_cons_succ]; first | done | exact rfl) | rfl)); (case' nextoe3 => skip))
      (refine' GG.grow_lit (GG.ApS.still (by decide)) rfl ?wtoe4 ?runoe4 ?putoe4 ?nextoe4; (case wtoe4 => rfl); (case runoe4 => (intro w' hS; (obtain ⟨dn, s, hS⟩ := hS); (have z0 := keep hS.b Z0.out); (have z1 := keep hS.b Z1.out); (have zl := World.block_lt_of_cell? _ _ z0); (obtain ⟨⟨wx, wy⟩, wx2, wy2⟩ := WX.out); clear hS; go_simp; first | done | exact rfl)); (case putoe4 => (first | (simp only [Act.put, List.setIfInBounds_toArray, List.set_cons_zero, List.set_cons_succ]; first | done | exact rfl) | rfl)); (case' nextoe4 => skip))
      (refine' GG.grow_lit (GG.ApS.still (by decide)) rfl ?wtoe5 ?runoe5 ?putoe5 ?nextoe5; (case wtoe5 => rfl); (case runoe5 => (intro w' hS; (obtain ⟨dn, s, hS⟩ := hS); (have z0 := keep hS.b Z0.out); (have z1 := keep hS.b Z1.out); (have zl := World.block_lt_of_cell? _ _ z0); (obtain ⟨⟨wx, wy⟩, wx2, wy2⟩ := WX.out); clear hS; go_simp; first | done | exact rfl)); (case putoe5 => (first | (simp only [Act.put, List.setIfInBounds_toArray, List.set_cons_zero, List.set_cons_succ]; first | done | exact rfl) | rfl)); (case' nextoe5 => skip))
      (refine' GG.grow_lit (GG.ApS.still (by decide)) rfl ?wtoe6 ?runoe6 ?putoe6 ?nextoe6; (case wtoe6 => rfl); (case runoe6 => (intro w' hS; (obtain ⟨dn, s, hS⟩ := hS); (have z0 := keep hS.b Z0.out); (have z1 := keep hS.b Z1.out); (have zl := World.block_lt_of_cell? _ _ z0); (obtain ⟨⟨wx, wy⟩, wx2, wy2⟩ := WX.out); clear hS; go_simp; first | done | exact rfl)); (case putoe6 => (first | (simp only [Act.put, List.setIfInBounds_toArray, List.set_cons_zero, List.set_cons_succ]; first | done | exact rfl) | rfl)); (case' nextoe6 => skip))
      (refine' GG.grow_lit (GG.ApS.still (by decide)) rfl ?wtoe7 ?runoe7 ?putoe7 ?nextoe7; (case wtoe7 => rfl); (case runoe7 => (intro w' hS; (obtain ⟨dn, s, hS⟩ := hS); (have z0 := keep hS.b Z0.out); (have z1 := keep hS.b Z1.out); (have zl := World.block_lt_of_cell? _ _ z0); (obtain ⟨⟨wx, wy⟩, wx2, wy2⟩ := WX.out); clear hS; go_simp; first | done | exact rfl)); (case putoe7 => (first | (simp only [Act.put, List.setIfInBounds_toArray, List.set_cons_zero, List.set_cons_succ]; first | done | exact rfl) | rfl)); (case' nextoe7 => skip))
      (refine' GG.grow_lit (GG.ApS.still (by decide)) rfl ?wtoe8 ?runoe8 ?putoe8 ?nextoe8; (case wtoe8 => rfl); (case runoe8 => (intro w' hS; (obtain ⟨dn, s, hS⟩ := hS); (have z0 := keep hS.b Z0.out); (have z1 := keep hS.b Z1.out); (have zl := World.block_lt_of_cell? _ _ z0); (obtain ⟨⟨wx, wy⟩, wx2, wy2⟩ := WX.out); clear hS; go_simp; first | done | exact rfl)); (case putoe8 => (first | (simp only [Act.put, List.setIfInBounds_toArray, List.set_cons_zero, List.set_cons_succ]; first | done | exact rfl) | rfl)); (case' nextoe8 => skip))
      (refine' GG.grow_lit (GG.ApS.still (by decide)) rfl ?wtoe9 ?runoe9 ?putoe9 ?nextoe9; (case wtoe9 => rfl); (case runoe9 => (intro w' hS; (obtain ⟨dn, s, hS⟩ := hS); (have z0 := keep hS.b Z0.out); (have z1 := keep hS.b Z1.out); (have zl := World.block_lt_of_cell? _ _ z0); (obtain ⟨⟨wx, wy⟩, wx2, wy2⟩ := WX.out); clear hS; go_simp; first | done | exact rfl)); (case putoe9 => (first | (simp only [Act.put, List.setIfInBounds_toArray, List.set_cons_zero, List.set_cons_succ]; first | done | exact rfl) | rfl)); (case' nextoe9 => skip))
      (refine' GG.grow_lit (GG.ApS.still (by decide)) rfl ?wtoe10 ?runoe10 ?putoe10 ?nextoe10; (case wtoe10 => rfl); (case runoe10 => (intro w' hS; (obtain ⟨dn, s, hS⟩ := hS); (have z0 := keep hS.b Z0.out); (have z1 := keep hS.b Z1.out); (have zl := World.block_lt_of_cell? _ _ z0); (obtain ⟨⟨wx, wy⟩, wx2, wy2⟩ := WX.out); clear hS; go_simp; first | done | exact rfl)); (case putoe10 => (first | (simp only [Act.put, List.setIfInBounds_toArray, List.set_cons_zero, List.set_cons_succ]; first | done | exact rfl) | rfl)); (case' nextoe10 => skip))
      (refine' GG.grow_lit (GG.ApS.still (by decide)) rfl ?wtoe11 ?runoe11 ?putoe11 ?nextoe11; (case wtoe11 => rfl); (case runoe11 => (intro w' hS; (obtain ⟨dn, s, hS⟩ := hS); (have z0 := keep hS.b Z0.out); (have z1 := keep hS.b Z1.out); (have zl := World.block_lt_of_cell? _ _ z0); (obtain ⟨⟨wx, wy⟩, wx2, wy2⟩ := WX.out); clear hS; go_simp; first | done | exact rfl)); (case putoe11 => (first | (simp only [Act.put, List.setIfInBounds_toArray, List.set_cons_zero, List.set_cons_succ]; first | done | exact rfl) | rfl)); (case' nextoe11 => skip))
      (refine' GG.grow_lit (GG.ApS.still (by decide)) rfl ?wtoe12 ?runoe12 ?putoe12 ?nextoe12; (case wtoe12 => rfl); (case runoe12 => (intro w' hS; (obtain ⟨dn, s, hS⟩ := hS); (have z0 := keep hS.b Z0.out); (have z1 := keep hS.b Z1.out); (have zl := World.block_lt_of_cell? _ _ z0); (obtain ⟨⟨wx, wy⟩, wx2, wy2⟩ := WX.out); clear hS; go_simp; first | done | exact rfl)); (case putoe12 => (first | (simp only [Act.put, List.setIfInBounds_toArray, List.set_cons_zero, List.set_cons_succ]; first | done | exact rfl) | rfl)); (case' nextoe12 => skip))
      (refine' GG.grow_lit (GG.ApS.still (by decide)) rfl ?wtoe13 ?runoe13 ?putoe13 ?nextoe13; (case wtoe13 => rfl); (case runoe13 => (intro w' hS; (obtain ⟨dn, s, hS⟩ := hS); (have z0 := keep hS.b Z0.out); (have z1 := keep hS.b Z1.out); (have zl := World.block_lt_of_cell? _ _ z0); (obtain ⟨⟨wx, wy⟩, wx2, wy2⟩ := WX.out); clear hS; go_simp; first | done | exact rfl)); (case putoe13 => (first | (simp only [Act.put, List.setIfInBounds_toArray, List.set_cons_zero, List.set_cons_succ]; first | done | exact rfl) | rfl)); (case' nextoe13 => skip))
      (refine' GG.grow_lit (GG.ApS.still (by decide)) rfl ?wtoe14 ?runoe14 ?putoe14 ?nextoe14; (case wtoe14 => rfl); (case runoe14 => (intro w' hS; (obtain ⟨dn, s, hS⟩ := hS); (have z0 := keep hS.b Z0.out); (have z1 := keep hS.b Z1.out); (have zl := World.block_lt_of_cell? _ _ z0); (obtain ⟨⟨wx, wy⟩, wx2, wy2⟩ := WX.out); clear hS; go_simp; first | done | exact rfl)); (case putoe14 => (first | (simp only [Act.put, List.setIfInBounds_toArray, List.set_cons_zero, List.set_cons_succ]; first | done | exact rfl) | rfl)); (case' nextoe14 => skip))
      (refine' GG.grow_lit (GG.ApS.still (by decide)) rfl ?wtoe15 ?runoe15 ?putoe15 ?nextoe15; (case wtoe15 => rfl); (case runoe15 => (intro w' hS; (obtain ⟨dn, s, hS⟩ := hS); (have z0 := keep hS.b Z0.out); (have z1 := keep hS.b Z1.out); (have zl := World.block_lt_of_cell? _ _ z0); (obtain ⟨⟨wx, wy⟩, wx2, wy2⟩ := WX.out); clear hS; go_simp; first | done | exact rfl)); (case putoe15 => (first | (simp only [Act.put, List.setIfInBounds_toArray, List.set_cons_zero, List.set_cons_succ]; first | done | exact rfl) | rfl)); (case' nextoe15 => skip))
      (refine' GG.grow_lit (GG.ApS.still (by decide)) rfl ?wtoe16 ?runoe16 ?putoe16 ?nextoe16; (case wtoe16 => rfl); (case runoe16 => (intro w' hS; (obtain ⟨dn, s, hS⟩ := hS); (have z0 := keep hS.b Z0.out); (have z1 := keep hS.b Z1.out); (have zl := World.block_lt_of_cell? _ _ z0); (obtain ⟨⟨wx, wy⟩, wx2, wy2⟩ := WX.out); clear hS; go_simp; first | done | exact rfl)); (case putoe16 => (first | (simp only [Act.put, List.setIfInBounds_toArray, List.set_cons_zero, List.set_cons_succ]; first | done | exact rfl) | rfl)); (case' nextoe16 => skip))
      (refine' GG.grow_lit (GG.ApS.still (by decide)) rfl ?wtoe17 ?runoe17 ?putoe17 ?nextoe17; (case wtoe17 => rfl); (case runoe17 => (intro w' hS; (obtain ⟨dn, s, hS⟩ := hS); (have z0 := keep hS.b Z0.out); (have z1 := keep hS.b Z1.out); (have zl := World.block_lt_of_cell? _ _ z0); (obtain ⟨⟨wx, wy⟩, wx2, wy2⟩ := WX.out); clear hS; go_simp; first | done | exact rfl)); (case putoe17 => (first | (simp only [Act.put, List.setIfInBounds_toArray, List.set_cons_zero, List.set_cons_succ]; first | done | exact rfl) | rfl)); (case' nextoe17 => skip))
      (refine' GG.grow_any_op (p := GG.LitP #[.int .i64 (x + dx), .int .i64 (y + dy)]) (hp := GG.LitP.st #[.int .i64 (x + dx), .int .i64 (y + dy)]) rfl ?wtoe18 ?runoe18 ?putoe18 ?nextoe18; (case wtoe18 => rfl); (case runoe18 => (intro dn s w' hS hd H; (refine ⟨.slice (some ⟨w'.heap.size, 0, none⟩) 1 1, s, w'.alloc (.cells #[.int .i64 (x + dx), .int .i64 (y + dy)] 30), ?_, fun _ => ⟨w'.heap.size, rfl, Blk.new _ _ _ _ rfl⟩, (hS.step (by decide)).old PT.stab (below_alloc1 _), ⟨id, fun _ => below_alloc1 _⟩, (below_alloc1 _).size⟩; clear hS hd H; go_simp))); (case putoe18 => (intro v; (simp only [Act.put, List.setIfInBounds_toArray, List.set_cons_zero, List.set_cons_succ]; first | done | exact rfl))); (case' nextoe18 => intro v18))
      (refine' GG.grow_any_op (p := GG.ApT (fun v w => PT w3 ((movL dx dy (l.take k)) ++ [(x + dx, y + dy)]) v [] (.slice none 0 0) w)) (hp := GG.ApT.st (fun _ => PT.stab)) rfl ?wtoe19 ?runoe19 ?putoe19 ?nextoe19; (case wtoe19 => rfl); (case runoe19 => (intro dn s w' hS hd H; (obtain rfl : s = false := hS.here.symm.trans hd); (obtain ⟨g, e9, kg⟩ := (show GG.LitP #[.int .i64 (x + dx), .int .i64 (y + dy)] v18 false w' from H 18 (by decide)) rfl); (obtain ⟨q', n', c', w7, hr, hP, hz⟩ := (hS.r rfl).app kg HL1.out); subst e9; exact ⟨_, true, w7, GG.exec_append (.tmp 103) (.tmp 121) 22 rfl rfl rfl hr, ⟨rfl, ⟨_, _, _, rfl⟩, hP⟩, ⟨rfl, (fun h => by cases h), hP.b⟩, ⟨fun _ => rfl, fun h => by cases h⟩, hz⟩)); (case putoe19 => (intro v; (simp only [Act.put, List.setIfInBounds_toArray, List.set_cons_zero, List.set_cons_succ]; first | done | exact rfl))); (case' nextoe19 => intro v19))
      intro dn s w7 hS7 _ hk7
      obtain ⟨-, ⟨qz, nz, cz, rfl⟩, hP⟩ : GG.ApT (fun v w => PT w3 ((movL dx dy (l.take k)) ++ [(x + dx, y + dy)]) v [] (.slice none 0 0) w) v19 s w7 := hk7 19 (by decide)
      have HP8 := Lib.hid hP
      clear hk7 hS7 hP SA0
      refine wpAny_ready (rs := [20]) (by kernel_rfl) (by simp) (AllReady.cons rfl (fun K hK => ?_) AllReady.nil)
      go_simp
      refine hK _ _ ?_
      clear hK K
      refine wpAny_done (by kernel_rfl) ?_ _
      go_wp2_with fail
      go_roundw
      case rel => exact ⟨k + 1, hlt, by go_num, by rw [HMS.out]; exact HP8.out⟩
      case measure => simp [intOf]; omega
    · have HF : Hid (decide (A ≤ A0) = false ∧ decide ((A : Int) ≤ (A0 : Int)) = false ∧ ¬ A ≤ A0) := Lib.hid ⟨decide_eq_false (by omega), decide_eq_false (by omega), by omega⟩
      clear HO2 hoa
      subst ho
      go_wp2_with fail
      refine' GG.wp_growL _ (GG.BelL wb) [[], [], [0, 1], [0, 1, 2], [0, 1, 2, 3], [0, 1, 2, 3], [0, 1, 2, 3, 4, 5], [0, 1, 2, 3, 4, 5, 6], [0, 1, 2, 3, 4, 5, 6, 7], [0, 1, 2, 3, 4, 5, 6, 7], [0, 1, 2, 3, 4, 5, 6, 7, 9], [0, 1, 2, 3, 4, 5, 6, 7, 8, 9, 10], [0, 1, 2, 3, 4, 5, 6, 7, 8, 9, 10, 11], [0, 1, 2, 3, 4, 5, 6, 7], [0, 1, 2, 3, 4, 5, 6, 7], [0, 1, 2, 3, 4, 5, 6, 7, 13, 14], [0, 1, 2, 3, 4, 5, 6, 7, 13, 14, 15], [0, 1, 2, 3, 4, 5, 6, 7, 8, 9, 10, 11, 12, 13, 14, 15, 16], [0, 1, 2, 3, 4, 5, 6, 7, 8, 9, 10, 11, 12, 13, 14, 15, 16, 17], [0, 1, 2, 3, 4, 5, 6, 7, 8, 9, 10, 11, 12, 13, 14, 15, 16, 17, 18]] (GG.Fact.lit (Rl := GG.RlL) _ :: GG.Fact.lit (Rl := GG.RlL) _ :: GG.Fact.lit (Rl := GG.RlL) _ :: GG.Fact.lit (Rl := GG.RlL) _ :: GG.Fact.lit (Rl := GG.RlL) _ :: GG.Fact.lit (Rl := GG.RlL) _ :: GG.Fact.lit (Rl := GG.RlL) _ :: GG.Fact.lit (Rl := GG.RlL) _ :: GG.Fact.lit (Rl := GG.RlL) _ :: GG.Fact.lit (Rl := GG.RlL) _ :: GG.Fact.lit (Rl := GG.RlL) _ :: GG.Fact.lit (Rl := GG.RlL) _ :: GG.Fact.lit (Rl := GG.RlL) _ :: GG.Fact.lit (Rl := GG.RlL) _ :: GG.Fact.lit (Rl := GG.RlL) _ :: GG.Fact.lit (Rl := GG.RlL) _ :: GG.Fact.lit (Rl := GG.RlL) _ :: GG.Fact.lit (Rl := GG.RlL) _ :: GG.Fact.lit (Rl := GG.RlL) _ :: GG.Fact.lit (Rl := GG.RlL) _ :: []) (by kernel_rfl) rfl (by kernel_rfl) (()) (DS0.out) ?seqod
      case' seqod => skip
      (refine' GG.grow_lit (GG.BelL.still) rfl ?wtod0 ?runod0 ?putod0 ?nextod0; (case wtod0 => rfl); (case runod0 => (intro w' hS; (obtain ⟨dn, s, hS⟩ := hS); (have pc := keep hS.b PC.out); (have pl := World.block_lt_of_cell? _ _ pc); (have qc := keep hS.b QC.out); (have wj := WJ.out); (obtain ⟨f1, f2, f3⟩ := HF.out); clear hS; go_simp; first | done | exact rfl)); (case putod0 => (first | (simp only [Act.put, List.setIfInBounds_toArray, List.set_cons_zero, List.set_cons_succ]; first | done | exact rfl) | rfl)); (case' nextod0 => skip))
      (refine' GG.grow_lit (GG.BelL.still) rfl ?wtod1 ?runod1 ?putod1 ?nextod1; (case wtod1 => rfl); (case runod1 => (intro w' hS; (obtain ⟨dn, s, hS⟩ := hS); (have pc := keep hS.b PC.out); (have pl := World.block_lt_of_cell? _ _ pc); (have qc := keep hS.b QC.out); (have wj := WJ.out); (obtain ⟨f1, f2, f3⟩ := HF.out); clear hS; go_simp; first | done | exact rfl)); (case putod1 => (first | (simp only [Act.put, List.setIfInBounds_toArray, List.set_cons_zero, List.set_cons_succ]; first | done | exact rfl) | rfl)); (case' nextod1 => skip))
      (refine' GG.grow_lit (GG.BelL.still) rfl ?wtod2 ?runod2 ?putod2 ?nextod2; (case wtod2 => rfl); (case runod2 => (intro w' hS; (obtain ⟨dn, s, hS⟩ := hS); (have pc := keep hS.b PC.out); (have pl := World.block_lt_of_cell? _ _ pc); (have qc := keep hS.b QC.out); (have wj := WJ.out); (obtain ⟨f1, f2, f3⟩ := HF.out); clear hS; go_simp; first | done | exact rfl)); (case putod2 => (first | (simp only [Act.put, List.setIfInBounds_toArray, List.set_cons_zero, List.set_cons_succ]; first | done | exact rfl) | rfl)); (case' nextod2 => skip))
      (refine' GG.grow_lit (GG.BelL.still) rfl ?wtod3 ?runod3 ?putod3 ?nextod3; (case wtod3 => rfl); (case runod3 => (intro w' hS; (obtain ⟨dn, s, hS⟩ := hS); (have pc := keep hS.b PC.out); (have pl := World.block_lt_of_cell? _ _ pc); (have qc := keep hS.b QC.out); (have wj := WJ.out); (obtain ⟨f1, f2, f3⟩ := HF.out); clear hS; go_simp; first | done | exact rfl)); (case putod3 => (first | (simp only [Act.put, List.setIfInBounds_toArray, List.set_cons_zero, List.set_cons_succ]; first | done | exact rfl) | rfl)); (case' nextod3 => skip))
      (refine' GG.grow_lit (GG.BelL.still) rfl ?wtod4 ?runod4 ?putod4 ?nextod4; (case wtod4 => rfl); (case runod4 => (intro w' hS; (obtain ⟨dn, s, hS⟩ := hS); (have pc := keep hS.b PC.out); (have pl := World.block_lt_of_cell? _ _ pc); (have qc := keep hS.b QC.out); (have wj := WJ.out); (obtain ⟨f1, f2, f3⟩ := HF.out); clear hS; go_simp; first | done | exact rfl)); (case putod4 => (first | (simp only [Act.put, List.setIfInBounds_toArray, List.set_cons_zero, List.set_cons_succ]; first | done | exact rfl) | rfl)); (case' nextod4 => skip))
      (refine' GG.grow_lit (GG.BelL.still) rfl ?wtod5 ?runod5 ?putod5 ?nextod5; (case wtod5 => rfl); (case runod5 => (intro w' hS; (obtain ⟨dn, s, hS⟩ := hS); (have pc := keep hS.b PC.out); (have pl := World.block_lt_of_cell? _ _ pc); (have qc := keep hS.b QC.out); (have wj := WJ.out); (obtain ⟨f1, f2, f3⟩ := HF.out); clear hS; go_simp; first | done | exact rfl)); (case putod5 => (first | (simp only [Act.put, List.setIfInBounds_toArray, List.set_cons_zero, List.set_cons_succ]; first | done | exact rfl) | rfl)); (case' nextod5 => skip))
      (refine' GG.grow_lit (GG.BelL.still) rfl ?wtod6 ?runod6 ?putod6 ?nextod6; (case wtod6 => rfl); (case runod6 => (intro w' hS; (obtain ⟨dn, s, hS⟩ := hS); (have pc := keep hS.b PC.out); (have pl := World.block_lt_of_cell? _ _ pc); (have qc := keep hS.b QC.out); (have wj := WJ.out); (obtain ⟨f1, f2, f3⟩ := HF.out); clear hS; go_simp; first | done | exact rfl)); (case putod6 => (first | (simp only [Act.put, List.setIfInBounds_toArray, List.set_cons_zero, List.set_cons_succ]; first | done | exact rfl) | rfl)); (case' nextod6 => skip))
      (refine' GG.grow_lit (GG.BelL.still) rfl ?wtod7 ?runod7 ?putod7 ?nextod7; (case wtod7 => rfl); (case runod7 => (intro w' hS; (obtain ⟨dn, s, hS⟩ := hS); (have pc := keep hS.b PC.out); (have pl := World.block_lt_of_cell? _ _ pc); (have qc := keep hS.b QC.out); (have wj := WJ.out); (obtain ⟨f1, f2, f3⟩ := HF.out); clear hS; go_simp; first | done | exact rfl)); (case putod7 => (first | (simp only [Act.put, List.setIfInBounds_toArray, List.set_cons_zero, List.set_cons_succ]; first | done | exact rfl) | rfl)); (case' nextod7 => skip))
      (refine' GG.grow_lit (GG.BelL.still) rfl ?wtod8 ?runod8 ?putod8 ?nextod8; (case wtod8 => rfl); (case runod8 => (intro w' hS; (obtain ⟨dn, s, hS⟩ := hS); (have pc := keep hS.b PC.out); (have pl := World.block_lt_of_cell? _ _ pc); (have qc := keep hS.b QC.out); (have wj := WJ.out); (obtain ⟨f1, f2, f3⟩ := HF.out); clear hS; go_simp; first | done | exact rfl)); (case putod8 => (first | (simp only [Act.put, List.setIfInBounds_toArray, List.set_cons_zero, List.set_cons_succ]; first | done | exact rfl) | rfl)); (case' nextod8 => skip))
      (refine' GG.grow_lit (GG.BelL.still) rfl ?wtod9 ?runod9 ?putod9 ?nextod9; (case wtod9 => rfl); (case runod9 => (intro w' hS; (obtain ⟨dn, s, hS⟩ := hS); (have pc := keep hS.b PC.out); (have pl := World.block_lt_of_cell? _ _ pc); (have qc := keep hS.b QC.out); (have wj := WJ.out); (obtain ⟨f1, f2, f3⟩ := HF.out); clear hS; go_simp; first | done | exact rfl)); (case putod9 => (first | (simp only [Act.put, List.setIfInBounds_toArray, List.set_cons_zero, List.set_cons_succ]; first | done | exact rfl) | rfl)); (case' nextod9 => skip))
      (refine' GG.grow_lit (GG.BelL.still) rfl ?wtod10 ?runod10 ?putod10 ?nextod10; (case wtod10 => rfl); (case runod10 => (intro w' hS; (obtain ⟨dn, s, hS⟩ := hS); (have pc := keep hS.b PC.out); (have pl := World.block_lt_of_cell? _ _ pc); (have qc := keep hS.b QC.out); (have wj := WJ.out); (obtain ⟨f1, f2, f3⟩ := HF.out); clear hS; go_simp; first | done | exact rfl)); (case putod10 => (first | (simp only [Act.put, List.setIfInBounds_toArray, List.set_cons_zero, List.set_cons_succ]; first | done | exact rfl) | rfl)); (case' nextod10 => skip))
      (refine' GG.grow_lit (GG.BelL.still) rfl ?wtod11 ?runod11 ?putod11 ?nextod11; (case wtod11 => rfl); (case runod11 => (intro w' hS; (obtain ⟨dn, s, hS⟩ := hS); (have pc := keep hS.b PC.out); (have pl := World.block_lt_of_cell? _ _ pc); (have qc := keep hS.b QC.out); (have wj := WJ.out); (obtain ⟨f1, f2, f3⟩ := HF.out); clear hS; go_simp; first | done | exact rfl)); (case putod11 => (first | (simp only [Act.put, List.setIfInBounds_toArray, List.set_cons_zero, List.set_cons_succ]; first | done | exact rfl) | rfl)); (case' nextod11 => skip))
      (refine' GG.grow_lit (GG.BelL.still) rfl ?wtod12 ?runod12 ?putod12 ?nextod12; (case wtod12 => rfl); (case runod12 => (intro w' hS; (obtain ⟨dn, s, hS⟩ := hS); (have pc := keep hS.b PC.out); (have pl := World.block_lt_of_cell? _ _ pc); (have qc := keep hS.b QC.out); (have wj := WJ.out); (obtain ⟨f1, f2, f3⟩ := HF.out); clear hS; go_simp; first | done | exact rfl)); (case putod12 => (first | (simp only [Act.put, List.setIfInBounds_toArray, List.set_cons_zero, List.set_cons_succ]; first | done | exact rfl) | rfl)); (case' nextod12 => skip))
      (refine' GG.grow_lit (GG.BelL.still) rfl ?wtod13 ?runod13 ?putod13 ?nextod13; (case wtod13 => rfl); (case runod13 => (intro w' hS; (obtain ⟨dn, s, hS⟩ := hS); (have pc := keep hS.b PC.out); (have pl := World.block_lt_of_cell? _ _ pc); (have qc := keep hS.b QC.out); (have wj := WJ.out); (obtain ⟨f1, f2, f3⟩ := HF.out); clear hS; go_simp; first | done | exact rfl)); (case putod13 => (first | (simp only [Act.put, List.setIfInBounds_toArray, List.set_cons_zero, List.set_cons_succ]; first | done | exact rfl) | rfl)); (case' nextod13 => skip))
      (refine' GG.grow_lit (GG.BelL.still) rfl ?wtod14 ?runod14 ?putod14 ?nextod14; (case wtod14 => rfl); (case runod14 => (intro w' hS; (obtain ⟨dn, s, hS⟩ := hS); (have pc := keep hS.b PC.out); (have pl := World.block_lt_of_cell? _ _ pc); (have qc := keep hS.b QC.out); (have wj := WJ.out); (obtain ⟨f1, f2, f3⟩ := HF.out); clear hS; go_simp; first | done | exact rfl)); (case putod14 => (first | (simp only [Act.put, List.setIfInBounds_toArray, List.set_cons_zero, List.set_cons_succ]; first | done | exact rfl) | rfl)); (case' nextod14 => skip))
      (refine' GG.grow_lit (GG.BelL.still) rfl ?wtod15 ?runod15 ?putod15 ?nextod15; (case wtod15 => rfl); (case runod15 => (intro w' hS; (obtain ⟨dn, s, hS⟩ := hS); (have pc := keep hS.b PC.out); (have pl := World.block_lt_of_cell? _ _ pc); (have qc := keep hS.b QC.out); (have wj := WJ.out); (obtain ⟨f1, f2, f3⟩ := HF.out); clear hS; go_simp; first | done | exact rfl)); (case putod15 => (first | (simp only [Act.put, List.setIfInBounds_toArray, List.set_cons_zero, List.set_cons_succ]; first | done | exact rfl) | rfl)); (case' nextod15 => skip))
      (refine' GG.grow_lit (GG.BelL.still) rfl ?wtod16 ?runod16 ?putod16 ?nextod16; (case wtod16 => rfl); (case runod16 => (intro w' hS; (obtain ⟨dn, s, hS⟩ := hS); (have pc := keep hS.b PC.out); (have pl := World.block_lt_of_cell? _ _ pc); (have qc := keep hS.b QC.out); (have wj := WJ.out); (obtain ⟨f1, f2, f3⟩ := HF.out); clear hS; go_simp; first | done | exact rfl)); (case putod16 => (first | (simp only [Act.put, List.setIfInBounds_toArray, List.set_cons_zero, List.set_cons_succ]; first | done | exact rfl) | rfl)); (case' nextod16 => skip))
      (refine' GG.grow_lit (GG.BelL.still) rfl ?wtod17 ?runod17 ?putod17 ?nextod17; (case wtod17 => rfl); (case runod17 => (intro w' hS; (obtain ⟨dn, s, hS⟩ := hS); (have pc := keep hS.b PC.out); (have pl := World.block_lt_of_cell? _ _ pc); (have qc := keep hS.b QC.out); (have wj := WJ.out); (obtain ⟨f1, f2, f3⟩ := HF.out); clear hS; go_simp; first | done | exact rfl)); (case putod17 => (first | (simp only [Act.put, List.setIfInBounds_toArray, List.set_cons_zero, List.set_cons_succ]; first | done | exact rfl) | rfl)); (case' nextod17 => skip))
      (refine' GG.grow_lit (GG.BelL.still) rfl ?wtod18 ?runod18 ?putod18 ?nextod18; (case wtod18 => rfl); (case runod18 => (intro w' hS; (obtain ⟨dn, s, hS⟩ := hS); (have pc := keep hS.b PC.out); (have pl := World.block_lt_of_cell? _ _ pc); (have qc := keep hS.b QC.out); (have wj := WJ.out); (obtain ⟨f1, f2, f3⟩ := HF.out); clear hS; go_simp; first | done | exact rfl)); (case putod18 => (first | (simp only [Act.put, List.setIfInBounds_toArray, List.set_cons_zero, List.set_cons_succ]; first | done | exact rfl) | rfl)); (case' nextod18 => skip))
      (refine' GG.grow_lit (GG.BelL.still) rfl ?wtod19 ?runod19 ?putod19 ?nextod19; (case wtod19 => rfl); (case runod19 => (intro w' hS; (obtain ⟨dn, s, hS⟩ := hS); (have pc := keep hS.b PC.out); (have pl := World.block_lt_of_cell? _ _ pc); (have qc := keep hS.b QC.out); (have wj := WJ.out); (obtain ⟨f1, f2, f3⟩ := HF.out); clear hS; go_simp; first | done | exact rfl)); (case putod19 => (first | (simp only [Act.put, List.setIfInBounds_toArray, List.set_cons_zero, List.set_cons_succ]; first | done | exact rfl) | rfl)); (case' nextod19 => skip))
      intro dn s wc hS _ _
      have hb := hS.b
      clear hS DS0
      have HB_ := Lib.hid (bOn6 HB.out hb)
      have HE_ := Lib.hid (HE.out.below hb)
      have HK_ := Lib.hid (HK.out.below hb)
      clear HB HE HK
      have HB := HB_
      have HE := HE_
      have HK := HK_
      clear HB_ HE_ HK_
      have HM_ := Lib.hid (PT.stab _ _ HM.out hb)
      clear HM
      have HM := HM_
      clear HM_
      clear hb
      clear HF PC QC
      go_wp2_with fail
      obtain ⟨eb, eo, he9, z0, z1, -⟩ := HE3.out.atP HXY.out
      injection he9 with he9
      injection he9 with e1 e2
      subst e1 e2
      have Z0 := Lib.hid z0
      have Z1 := Lib.hid z1
      have HMS := Lib.hid (movL_snoc (dx := dx) (dy := dy) hlt (List.getElem?_eq_some_iff.1 HXY.out).2)
      obtain ⟨⟨s0, s1⟩, s2, s3⟩ := HSM.out _ (List.mem_of_getElem? HXY.out)
      obtain ⟨⟨t0, t1⟩, t2, t3⟩ := HDX.out
      simp only at s0 s1 s2 s3
      have WX : Hid ((IntKind.i64.wrap dx = dx ∧ IntKind.i64.wrap dy = dy) ∧ IntKind.i64.wrap (x + dx) = x + dx ∧ IntKind.i64.wrap (y + dy) = y + dy) := Lib.hid ⟨⟨IntWalk.i64_in _ (by omega), IntWalk.i64_in _ (by omega)⟩, IntWalk.i64_in _ (by omega), IntWalk.i64_in _ (by omega)⟩
      have HL1 : Hid ((movL dx dy (l.take k)).length ≤ 100000) := Lib.hid (by rw [movL_len, List.length_take]; omega)
      have SA0 : Hid (GG.ApS 19 (PT w3 (movL dx dy (l.take k)) u11 [] (.slice none 0 0)) w3 (fun _ => false) false wc.drew) := Lib.hid ⟨rfl, fun _ => PT.stab _ _ HM.out (Below.refl _ _).drew, HM.out.b.drew⟩
      have hwk : IntKind.i64.wrap ((k : Int) + 1) = (k : Int) + 1 := IntWalk.i64_in _ (by omega)
      clear z0 z1 s0 s1 s2 s3 t0 t1 t2 t3
      go_wp2_with fail
      refine' GG.wp_thenL _ 20 (GG.ApS 19 (PT w3 (movL dx dy (l.take k)) u11 [] (.slice none 0 0)) w3) [[], [], [], [1, 2], [1, 2, 3], [1, 2, 3, 4], [], [6], [1, 2, 3, 4, 5, 6, 7], [], [], [9, 10], [9, 10, 11], [9, 10, 11, 12], [], [14], [9, 10, 11, 12, 13, 14, 15], [1, 2, 3, 4, 5, 6, 7, 8, 9, 10, 11, 12, 13, 14, 15, 16], [1, 2, 3, 4, 5, 6, 7, 8, 9, 10, 11, 12, 13, 14, 15, 16, 17], [0, 1, 2, 3, 4, 5, 6, 7, 8, 9, 10, 11, 12, 13, 14, 15, 16, 17, 18]] (GG.Fact.lit (Rl := GG.RlA) _ :: GG.Fact.lit (Rl := GG.RlA) _ :: GG.Fact.lit (Rl := GG.RlA) _ :: GG.Fact.lit (Rl := GG.RlA) _ :: GG.Fact.lit (Rl := GG.RlA) _ :: GG.Fact.lit (Rl := GG.RlA) _ :: GG.Fact.lit (Rl := GG.RlA) _ :: GG.Fact.lit (Rl := GG.RlA) _ :: GG.Fact.lit (Rl := GG.RlA) _ :: GG.Fact.lit (Rl := GG.RlA) _ :: GG.Fact.lit (Rl := GG.RlA) _ :: GG.Fact.lit (Rl := GG.RlA) _ :: GG.Fact.lit (Rl := GG.RlA) _ :: GG.Fact.lit (Rl := GG.RlA) _ :: GG.Fact.lit (Rl := GG.RlA) _ :: GG.Fact.lit (Rl := GG.RlA) _ :: GG.Fact.lit (Rl := GG.RlA) _ :: GG.Fact.lit (Rl := GG.RlA) _ :: GG.Fact.prop (Rl := GG.RlA) _ _ :: GG.Fact.prop (Rl := GG.RlA) _ _ :: []) (by kernel_rfl) rfl (by kernel_rfl) (false) (SA0.out) ?seqof
      case' seqof => skip
      (refine' GG.grow_lit (GG.ApS.still (by decide)) rfl ?wtof0 ?runof0 ?putof0 ?nextof0; (case wtof0 => rfl); (case runof0 => (intro w' hS; (obtain ⟨dn, s, hS⟩ := hS); (have z0 := keep hS.b Z0.out); (have z1 := keep hS.b Z1.out); (have zl := World.block_lt_of_cell? _ _ z0); (obtain ⟨⟨wx, wy⟩, wx2, wy2⟩ := WX.out); clear hS; go_simp; first | done | exact rfl)); (case putof0 => (first | (simp only [Act.put, List.setIfInBounds_toArray, List.set_cons_zero, List.set_cons_succ]; first | done | exact rfl) | rfl)); (case' nextof0 => skip))
      (refine' GG.grow_lit (GG.ApS.still (by decide)) rfl ?wtof1 ?runof1 ?putof1 ?nextof1; (case wtof1 => rfl); (case runof1 => (intro w' hS; (obtain ⟨dn, s, hS⟩ := hS); (have z0 := keep hS.b Z0.out); (have z1 := keep hS.b Z1.out); (have zl := World.block_lt_of_cell? _ _ z0); (obtain ⟨⟨wx, wy⟩, wx2, wy2⟩ := WX.out); clear hS; go_simp; first | done | exact rfl)); (case putof1 => (first | (simp only [Act.put, List.setIfInBounds_toArray, List.set_cons_zero, List.set_cons_succ]; first | done | exact rfl) | rfl)); (case' nextof1 => skip))
      (refine' GG.grow_lit (GG.ApS.still (by decide)) rfl ?wtof2 ?runof2 ?putof2 ?nextof2; (case wtof2 => rfl); (case runof2 => (intro w' hS; (obtain ⟨dn, s, hS⟩ := hS); (have z0 := keep hS.b Z0.out); (have z1 := keep hS.b Z1.out); (have zl := World.block_lt_of_cell? _ _ z0); (obtain ⟨⟨wx, wy⟩, wx2, wy2⟩ := WX.out); clear hS; go_simp; first | done | exact rfl)); (case putof2 => (first | (simp only [Act.put, List.setIfInBounds_toArray, List.set_cons_zero, List.set_cons_succ]; first | done | exact rfl) | rfl)); (case' nextof2 => skip))
      (refine' GG.grow_lit (GG.ApS.still (by decide)) rfl ?wtof3 ?runof3 ?putof3 ?nextof3; (case wtof3 => rfl); (case runof3 => (intro w' hS; (obtain ⟨dn, s, hS⟩ := hS); (have z0 := keep hS.b Z0.out); (have z1 := keep hS.b Z1.out); (have zl := World.block_lt_of_cell? _ _ z0); (obtain ⟨⟨wx, wy⟩, wx2, wy2⟩ := WX.out); clear hS; go_simp; first | done | exact rfl)); (case putof3 => (first | (simp only [Act.put, List.setIfInBounds_toArray, List.set_cons_zero, List.set_cons_succ]; first | done | exact rfl) | rfl)); (case' nextof3 => skip))
      (refine' GG.grow_lit (GG.ApS.still (by decide)) rfl ?wtof4 ?runof4 ?putof4 ?nextof4; (case wtof4 => rfl); (case runof4 => (intro w' hS; (obtain ⟨dn, s, hS⟩ := hS); (have z0 := keep hS.b Z0.out); (have z1 := keep hS.b Z1.out); (have zl := World.block_lt_of_cell? _ _ z0); (obtain ⟨⟨wx, wy⟩, wx2, wy2⟩ := WX.out); clear hS; go_simp; first | done | exact rfl)); (case putof4 => (first | (simp only [Act.put, List.setIfInBounds_toArray, List.set_cons_zero, List.set_cons_succ]; first | done | exact rfl) | rfl)); (case' nextof4 => skip))
      (refine' GG.grow_lit (GG.ApS.still (by decide)) rfl ?wtof5 ?runof5 ?putof5 ?nextof5; (case wtof5 => rfl); (case runof5 => (intro w' hS; (obtain ⟨dn, s, hS⟩ := hS); (have z0 := keep hS.b Z0.out); (have z1 := keep hS.b Z1.out); (have zl := World.block_lt_of_cell? _ _ z0); (obtain ⟨⟨wx, wy⟩, wx2, wy2⟩ := WX.out); clear hS; go_simp; first | done | exact rfl)); (case putof5 => (first | (simp only [Act.put, List.setIfInBounds_toArray, List.set_cons_zero, List.set_cons_succ]; first | done | exact rfl) | rfl)); (case' nextof5 => skip))
      (refine' GG.grow_lit (GG.ApS.still (by decide)) rfl ?wtof6 ?runof6 ?putof6 ?nextof6; (case wtof6 => rfl); (case runof6 => (intro w' hS; (obtain ⟨dn, s, hS⟩ := hS); (have z0 := keep hS.b Z0.out); (have z1 := keep hS.b Z1.out); (have zl := World.block_lt_of_cell? _ _ z0); (obtain ⟨⟨wx, wy⟩, wx2, wy2⟩ := WX.out); clear hS; go_simp; first | done | exact rfl)); (case putof6 => (first | (simp only [Act.put, List.setIfInBounds_toArray, List.set_cons_zero, List.set_cons_succ]; first | done | exact rfl) | rfl)); (case' nextof6 => skip))
      (refine' GG.grow_lit (GG.ApS.still (by decide)) rfl ?wtof7 ?runof7 ?putof7 ?nextof7; (case wtof7 => rfl); (case runof7 => (intro w' hS; (obtain ⟨dn, s, hS⟩ := hS); (have z0 := keep hS.b Z0.out); (have z1 := keep hS.b Z1.out); (have zl := World.block_lt_of_cell? _ _ z0); (obtain ⟨⟨wx, wy⟩, wx2, wy2⟩ := WX.out); clear hS; go_simp; first | done | exact rfl)); (case putof7 => (first | (simp only [Act.put, List.setIfInBounds_toArray, List.set_cons_zero, List.set_cons_succ]; first | done | exact rfl) | rfl)); (case' nextof7 => skip))
      (refine' GG.grow_lit (GG.ApS.still (by decide)) rfl ?wtof8 ?runof8 ?putof8 ?nextof8; (case wtof8 => rfl); (case runof8 => (intro w' hS; (obtain ⟨dn, s, hS⟩ := hS); (have z0 := keep hS.b Z0.out); (have z1 := keep hS.b Z1.out); (have zl := World.block_lt_of_cell? _ _ z0); (obtain ⟨⟨wx, wy⟩, wx2, wy2⟩ := WX.out); clear hS; go_simp; first | done | exact rfl)); (case putof8 => (first | (simp only [Act.put, List.setIfInBounds_toArray, List.set_cons_zero, List.set_cons_succ]; first | done | exact rfl) | rfl)); (case' nextof8 => skip))
      (refine' GG.grow_lit (GG.ApS.still (by decide)) rfl ?wtof9 ?runof9 ?putof9 ?nextof9; (case wtof9 => rfl); (case runof9 => (intro w' hS; (obtain ⟨dn, s, hS⟩ := hS); (have z0 := keep hS.b Z0.out); (have z1 := keep hS.b Z1.out); (have zl := World.block_lt_of_cell? _ _ z0); (obtain ⟨⟨wx, wy⟩, wx2, wy2⟩ := WX.out); clear hS; go_simp; first | done | exact rfl)); (case putof9 => (first | (simp only [Act.put, List.setIfInBounds_toArray, List.set_cons_zero, List.set_cons_succ]; first | done | exact rfl) | rfl)); (case' nextof9 => skip))
      (refine' GG.grow_lit (GG.ApS.still (by decide)) rfl ?wtof10 ?runof10 ?putof10 ?nextof10; (case wtof10 => rfl); (case runof10 => (intro w' hS; (obtain ⟨dn, s, hS⟩ := hS); (have z0 := keep hS.b Z0.out); (have z1 := keep hS.b Z1.out); (have zl := World.block_lt_of_cell? _ _ z0); (obtain ⟨⟨wx, wy⟩, wx2, wy2⟩ := WX.out); clear hS; go_simp; first | done | exact rfl)); (case putof10 => (first | (simp only [Act.put, List.setIfInBounds_toArray, List.set_cons_zero, List.set_cons_succ]; first | done | exact rfl) | rfl)); (case' nextof10 => skip))
      (refine' GG.grow_lit (GG.ApS.still (by decide)) rfl ?wtof11 ?runof11 ?putof11 ?nextof11; (case wtof11 => rfl); (case runof11 => (intro w' hS; (obtain ⟨dn, s, hS⟩ := hS); (have z0 := keep hS.b Z0.out); (have z1 := keep hS.b Z1.out); (have zl := World.block_lt_of_cell? _ _ z0); (obtain ⟨⟨wx, wy⟩, wx2, wy2⟩ := WX.out); clear hS; go_simp; first | done | exact rfl)); (case putof11 => (first | (simp only [Act.put, List.setIfInBounds_toArray, List.set_cons_zero, List.set_cons_succ]; first | done | exact rfl) | rfl)); (case' nextof11 => skip))
      (refine' GG.grow_lit (GG.ApS.still (by decide)) rfl ?wtof12 ?runof12 ?putof12 ?nextof12; (case wtof12 => rfl); (case runof12 => (intro w' hS; (obtain ⟨dn, s, hS⟩ := hS); (have z0 := keep hS.b Z0.out); (have z1 := keep hS.b Z1.out); (have zl := World.block_lt_of_cell? _ _ z0); (obtain ⟨⟨wx, wy⟩, wx2, wy2⟩ := WX.out); clear hS; go_simp; first | done | exact rfl)); (case putof12 => (first | (simp only [Act.put, List.setIfInBounds_toArray, List.set_cons_zero, List.set_cons_succ]; first | done | exact rfl) | rfl)); (case' nextof12 => skip))
      (refine' GG.grow_lit (GG.ApS.still (by decide)) rfl ?wtof13 ?runof13 ?putof13 ?nextof13; (case wtof13 => rfl); (case runof13 => (intro w' hS; (obtain ⟨dn, s, hS⟩ := hS); (have z0 := keep hS.b Z0.out); (have z1 := keep hS.b Z1.out); (have zl := World.block_lt_of_cell? _ _ z0); (obtain ⟨⟨wx, wy⟩, wx2, wy2⟩ := WX.out); clear hS; go_simp; first | done | exact rfl)); (case putof13 => (first | (simp only [Act.put, List.setIfInBounds_toArray, List.set_cons_zero, List.set_cons_succ]; first | done | exact rfl) | rfl)); (case' nextof13 => skip))
      (refine' GG.grow_lit (GG.ApS.still (by decide)) rfl ?wtof14 ?runof14 ?putof14 ?nextof14; (case wtof14 => rfl); (case runof14 => (intro w' hS; (obtain ⟨dn, s, hS⟩ := hS); (have z0 := keep hS.b Z0.out); (have z1 := keep hS.b Z1.out); (have zl := World.block_lt_of_cell? _ _ z0); (obtain ⟨⟨wx, wy⟩, wx2, wy2⟩ := WX.out); clear hS; go_simp; first | done | exact rfl)); (case putof14 => (first | (simp only [Act.put, List.setIfInBounds_toArray, List.set_cons_zero, List.set_cons_succ]; first | done | exact rfl) | rfl)); (case' nextof14 => skip))
      (refine' GG.grow_lit (GG.ApS.still (by decide)) rfl ?wtof15 ?runof15 ?putof15 ?nextof15; (case wtof15 => rfl); (case runof15 => (intro w' hS; (obtain ⟨dn, s, hS⟩ := hS); (have z0 := keep hS.b Z0.out); (have z1 := keep hS.b Z1.out); (have zl := World.block_lt_of_cell? _ _ z0); (obtain ⟨⟨wx, wy⟩, wx2, wy2⟩ := WX.out); clear hS; go_simp; first | done | exact rfl)); (case putof15 => (first | (simp only [Act.put, List.setIfInBounds_toArray, List.set_cons_zero, List.set_cons_succ]; first | done | exact rfl) | rfl)); (case' nextof15 => skip))
      (refine' GG.grow_lit (GG.ApS.still (by decide)) rfl ?wtof16 ?runof16 ?putof16 ?nextof16; (case wtof16 => rfl); (case runof16 => (intro w' hS; (obtain ⟨dn, s, hS⟩ := hS); (have z0 := keep hS.b Z0.out); (have z1 := keep hS.b Z1.out); (have zl := World.block_lt_of_cell? _ _ z0); (obtain ⟨⟨wx, wy⟩, wx2, wy2⟩ := WX.out); clear hS; go_simp; first | done | exact rfl)); (case putof16 => (first | (simp only [Act.put, List.setIfInBounds_toArray, List.set_cons_zero, List.set_cons_succ]; first | done | exact rfl) | rfl)); (case' nextof16 => skip))
      (refine' GG.grow_lit (GG.ApS.still (by decide)) rfl ?wtof17 ?runof17 ?putof17 ?nextof17; (case wtof17 => rfl); (case runof17 => (intro w' hS; (obtain ⟨dn, s, hS⟩ := hS); (have z0 := keep hS.b Z0.out); (have z1 := keep hS.b Z1.out); (have zl := World.block_lt_of_cell? _ _ z0); (obtain ⟨⟨wx, wy⟩, wx2, wy2⟩ := WX.out); clear hS; go_simp; first | done | exact rfl)); (case putof17 => (first | (simp only [Act.put, List.setIfInBounds_toArray, List.set_cons_zero, List.set_cons_succ]; first | done | exact rfl) | rfl)); (case' nextof17 => skip))
      (refine' GG.grow_any_op (p := GG.LitP #[.int .i64 (x + dx), .int .i64 (y + dy)]) (hp := GG.LitP.st #[.int .i64 (x + dx), .int .i64 (y + dy)]) rfl ?wtof18 ?runof18 ?putof18 ?nextof18; (case wtof18 => rfl); (case runof18 => (intro dn s w' hS hd H; (refine ⟨.slice (some ⟨w'.heap.size, 0, none⟩) 1 1, s, w'.alloc (.cells #[.int .i64 (x + dx), .int .i64 (y + dy)] 30), ?_, fun _ => ⟨w'.heap.size, rfl, Blk.new _ _ _ _ rfl⟩, (hS.step (by decide)).old PT.stab (below_alloc1 _), ⟨id, fun _ => below_alloc1 _⟩, (below_alloc1 _).size⟩; clear hS hd H; go_simp))); (case putof18 => (intro v; (simp only [Act.put, List.setIfInBounds_toArray, List.set_cons_zero, List.set_cons_succ]; first | done | exact rfl))); (case' nextof18 => intro v18))
      (refine' GG.grow_any_op (p := GG.ApT (fun v w => PT w3 ((movL dx dy (l.take k)) ++ [(x + dx, y + dy)]) v [] (.slice none 0 0) w)) (hp := GG.ApT.st (fun _ => PT.stab)) rfl ?wtof19 ?runof19 ?putof19 ?nextof19; (case wtof19 => rfl); (case runof19 => (intro dn s w' hS hd H; (obtain rfl : s = false := hS.here.symm.trans hd); (obtain ⟨g, e9, kg⟩ := (show GG.LitP #[.int .i64 (x + dx), .int .i64 (y + dy)] v18 false w' from H 18 (by decide)) rfl); (obtain ⟨q', n', c', w7, hr, hP, hz⟩ := (hS.r rfl).app kg HL1.out); subst e9; exact ⟨_, true, w7, GG.exec_append (.tmp 103) (.tmp 121) 22 rfl rfl rfl hr, ⟨rfl, ⟨_, _, _, rfl⟩, hP⟩, ⟨rfl, (fun h => by cases h), hP.b⟩, ⟨fun _ => rfl, fun h => by cases h⟩, hz⟩)); (case putof19 => (intro v; (simp only [Act.put, List.setIfInBounds_toArray, List.set_cons_zero, List.set_cons_succ]; first | done | exact rfl))); (case' nextof19 => intro v19))
      intro dn s w7 hS7 _ hk7
      obtain ⟨-, ⟨qz, nz, cz, rfl⟩, hP⟩ : GG.ApT (fun v w => PT w3 ((movL dx dy (l.take k)) ++ [(x + dx, y + dy)]) v [] (.slice none 0 0) w) v19 s w7 := hk7 19 (by decide)
      have HP8 := Lib.hid hP
      clear hk7 hS7 hP SA0
      refine wpAny_ready (rs := [20]) (by kernel_rfl) (by simp) (AllReady.cons rfl (fun K hK => ?_) AllReady.nil)
      go_simp
      refine hK _ _ ?_
      clear hK K
      refine wpAny_done (by kernel_rfl) ?_ _
      go_wp2_with fail
      go_roundw
      case rel => exact ⟨k + 1, hlt, by go_num, by rw [HMS.out]; exact HP8.out⟩
      case measure => simp [intOf]; omega
set_option maxRecDepth 100000 in
theorem lineOrder_walks : WalksP 3 Try.f3 := by
  intro H enc W args ds g
  obtain ⟨ps, hA⟩ := g.reads
  obtain ⟨base, hval⟩ := g.okay
  rw [Try.params3] at hA hval
  obtain ⟨v0, vs0, d0, ds0, p0, q0, hargs, rfl, rfl, h0, r0⟩ := trodAll_cons hA
  obtain ⟨v1, vs1, d1, ds1, p1, q1, rfl, rfl, rfl, h1, r1⟩ := trodAll_cons r0
  obtain ⟨v2, vs2, d2, ds2, p2, q2, rfl, rfl, rfl, h2, r2⟩ := trodAll_cons r1
  obtain ⟨v3, vs3, d3, ds3, p3, q3, rfl, rfl, rfl, h3, r3⟩ := trodAll_cons r2
  obtain ⟨rfl, rfl, rfl⟩ := trodAll_nil r3
  obtain rfl : args = #[v0, v1, v2, v3] := Array.toList_inj.1 hargs
  obtain ⟨x0, w0, u0⟩ := open_edges (hval 0 22 v0 rfl rfl) h0
  obtain ⟨x1, rfl, rfl, rfl, w1⟩ := open_int Try.underlying5 (hval 1 5 v1 rfl rfl) h1
  obtain ⟨x2, rfl, rfl, rfl, w2⟩ := open_int Try.underlying23 (hval 2 23 v2 rfl rfl) h2
  obtain ⟨x3, rfl, rfl, rfl, w3⟩ := open_int Try.underlying23 (hval 3 23 v3 rfl rfl) h3
  exact order_walk v0 x0 x1 x2 x3 W w0 u0 (wfu8 w1).1 (wfu8 w1).2 (wfi16 w2).1 (wfi16 w2).2 (wfi16 w3).1 (wfi16 w3).2

theorem lineOrder_row : Rows.LineOrderSaid :=
  OpenClaim.holds_of_wide 3 Try.f3 rfl rfl rfl rfl rfl rfl rfl ⟨rfl, rfl, rfl, rfl, rfl⟩ rfl rfl rfl rfl rfl (by kernel_rfl) Try.func3 (by kernel_rfl)
    (of_decide_eq_true (by kernel_rfl)) (by unfold Func.isWrapper; rw [if_neg (of_decide_eq_false (by kernel_rfl))]; exact ⟨rfl, rfl⟩)
    (fun os started H enc _ => law_plain (s := Rows.lineOrderSpec) Try.func3 (by kernel_rfl) rfl (by kernel_rfl)
      (fun H ds hl => by
        rw [Try.params3] at hl
        match ds, hl with
        | [_, _, _, _], _ => exact ⟨rfl, rfl, rfl⟩)
      (by kernel_rfl) os started H enc
      (ChangeSpec.witness6 (enc := enc) (C := Try.checked) false ⟨#[], #[.slice none 0 0, .int .u8 0, .int .i16 0, .int .i16 0], []⟩ 8 (by kernel_rfl) (by kernel_rfl) (by kernel_rfl) (by kernel_rfl))
      lineOrder_walks)
#print axioms lineOrder_row
end Go.Proofs.Ytleheaffipokfaa
