/-
  PROVED: Each split has a quarter of the points on either side at least; Near's and Far's cross as many edges, and no fair way between their ends crosses fewer; for any points, edges and side.
-/
import Derived.Test.YthfljimgpcignaaGreatDoorCfA
import Derived.Test.YthfljimgpcignaaGreatDoorCuE
import Derived.Test.YthfljimgpcignaaGreatDoorFlCu
import Derived.Test.YthfljimgpcignaaGreatDoorLaid9
import Derived.Test.YthfljimgpcignaaGreatDoorLift
import Derived.RegionTactic
import Derived.BigQuiet
import Derived.IntWalk
import Derived.Test.YthfljimgpcignaaGreatDoorCards
import Derived.Test.YthfljimgpcignaaGreatDoorTie
import Derived.SevenTiedAt
namespace Go.Proofs.YthfljimgpcignaaGreatDoor
open Go.ChangeShapes Go.WideShapes Go.ChangeAt Go.RowKit Go.Sort

theorem zE_ofF {N : Nat} {es : List (Int × Int)} (h : ∀ x, x ∈ es → zPair N x) : ∃ F, es = zE F := by
  refine ⟨es.map fun x => (x.1.toNat, x.2.toNat), ?_⟩
  unfold zE
  rw [List.map_map]
  refine ((List.map_congr_left fun x hx => ?_).trans (List.map_id _)).symm
  obtain ⟨⟨h1, -⟩, h2, -⟩ := h x hx
  show (((x.1.toNat : Nat) : Int), ((x.2.toNat : Nat) : Int)) = id x
  rw [Int.toNat_of_nonneg h1, Int.toNat_of_nonneg h2]
  rfl
def FairRel (w : World) (iv : Value) (wr : World) : Prop := ∃ i : Nat, i ≤ 12 ∧ iv = .int .i64 i ∧ Below w.heap.size w wr
def PutFRel (W : World) (g : Nat) (B : List Bool) (a b : List Nat) (kv : Value) (wr : World) : Prop := ∃ k : Nat, k ≤ a.length ∧ kv = .int .i64 k ∧ InC wr g (inS B a b k) ∧ Below W.heap.size W wr
theorem setB_some {B : List Bool} {v : Nat} {b : Bool} (h : B[v]? = some b) : setB B v = b := by
  obtain ⟨hl, e⟩ := List.getElem?_eq_some_iff.1 h
  rw [setB_at hl, e]
/-- What no fair way betters. -/
theorem fair_low {l : List (Int × Int)} {E : Edg} {L : List Spl} {d j : Nat} {x : Spl} {o : List Nat} {B : List Bool} (hq : SplitsQ l E L) (hd : d < 4) (hj : j < 2) (hx : L[3 * d + j]? = some x) (ho : OrdL l (d : Int) o) (hB : B.length = l.length) : x.cross ≤ crossS (setB (inS B (srcL o) (dstL o) (srcL o).length)) E := by
  obtain ⟨a, b, c, h1, h2, h3, o2, V, near, far, ho2, hm, hn, hf, rfl, rfl, rfl⟩ := hq.way d hd
  obtain rfl := ho.uniq ho2 rfl fun _ _ _ _ h => h
  have hxc : x.cross = V := by
    match j, hj with
    | 0, _ => rw [Nat.add_zero] at hx; obtain rfl := Option.some.inj (hx.symm.trans h1); rfl
    | 1, _ => obtain rfl := Option.some.inj (hx.symm.trans h2); rfl
  rw [hxc]
  have hol := ho.len
  have hk := endN_le o.length
  have hlen : (srcL o).length = (dstL o).length := by
    unfold srcL dstL
    rw [List.length_take, List.length_drop]
    omega
  obtain ⟨p, q⟩ := inS_at (S := B) (a := srcL o) (b := dstL o) (fun v h1 h2 => ho.apart h1 h2) (fun v h => by rw [hB]; exact ho.src_lt h) (fun v h => by rw [hB]; exact ho.dst_lt h) (srcL o).length (Nat.le_refl _) (by omega)
  refine any_cross ho hm (fun v hv => ?_) (fun v hv => ?_)
  · exact setB_some (p v (by rw [List.take_length]; exact hv))
  · exact setB_some (q v (by rw [hlen, List.take_length]; exact hv))
/-- Both sides of one way cross as many edges, its half no fewer. -/
theorem ways_cross {l : List (Int × Int)} {E : Edg} {L : List Spl} {d : Nat} {x y z : Spl} (hq : SplitsQ l E L) (hd : d < 4) (hx : L[3 * d]? = some x) (hy : L[3 * d + 1]? = some y) (hz : L[3 * d + 2]? = some z) : y.cross = x.cross ∧ y.cross ≤ z.cross := by
  obtain ⟨a, b, c, h1, h2, h3, o, V, near, far, ho, hm, hn, hf, rfl, rfl, rfl⟩ := hq.way d hd
  obtain rfl := Option.some.inj (hx.symm.trans h1)
  obtain rfl := Option.some.inj (hy.symm.trans h2)
  obtain rfl := Option.some.inj (hz.symm.trans h3)
  exact ⟨rfl, half_cross ho hm⟩
set_option maxHeartbeats 8000000 in
set_option maxRecDepth 100000 in
theorem fair_law (pv : Value) (l : List (Int × Int)) (ev : Value) (es : List (Int × Int)) (sv : Value) (S : List Bool) (w : World) (hg : ErrT w) (hp : Prs w pv l) (_ : InPrs l) (he : Prs w ev es) (_ : InPrs es) (hs : Bools w sv S) :
    Calls Tryz.prog 3 #[pv, ev, sv] w fun e w' => e = .returned (.bool true) ∧ Below w.heap.size w w' := by
  obtain ⟨pq0, pc0, rfl⟩ := hp.shape
  obtain ⟨eq0, ec0, rfl⟩ := he.shape
  obtain ⟨sq0, sc0, rfl⟩ := hs.shape
  have HB := Lib.hid (Below.refl w.heap.size w)
  have HP := Lib.hid hp
  have HE := Lib.hid he
  have HSD := Lib.hid hs
  have HG := Lib.hid hg
  clear hp he hs hg
  go_enter Tryz.func3, Tryz.ntmps3
  go_wp2_with fail
  refine (known11_any _ HG.out).mono ?_
  rintro e w1 ⟨rfl, hb⟩
  have HB_ := Lib.hid (bOn6 HB.out hb)
  have HP_ := Lib.hid (HP.out.below hb)
  have HE_ := Lib.hid (HE.out.below hb)
  have HSD_ := Lib.hid (HSD.out.below hb)
  clear HB HP HE HSD
  have HB := HB_
  have HP := HP_
  have HE := HE_
  have HSD := HSD_
  clear HB_ HP_ HE_ HSD_
  clear hb
  go_wp2_with fail
  obtain ⟨fw, hfw⟩ : ∃ fw, decide (l.length ≤ 24 ∧ es.length ≤ 80) = fw := ⟨_, rfl⟩
  refine (few_is HP.out HE.out).mono ?_
  rintro e w2 ⟨rfl, rfl⟩
  rw [hfw]
  cases fw
  · go_wp2_with fail
    go_ret
    exact ⟨rfl, HB.out⟩
  have HFW := Lib.hid (of_decide_eq_true hfw)
  clear hfw
  by_cases hsl : S.length = l.length
  case neg =>
    have dsl : ((S.length : Int) != (l.length : Int)) = true := by simp only [bne_iff_ne, ne_eq]; omega
    have dsl2 : ((S.length : Int) == (l.length : Int)) = false := by simp only [beq_eq_false_iff_ne, ne_eq]; omega
    go_wp2_with fail
    go_ret
    exact ⟨rfl, HB.out⟩
  obtain ⟨N, hN⟩ : ∃ N, l.length = N := ⟨_, rfl⟩
  have HN := Lib.hid hN
  have HSL : Hid (S.length = N) := Lib.hid (by omega)
  rw [hsl, hN] at HSD ⊢
  rw [hN] at HP
  clear hsl hN
  go_wp2_with fail
  refine (checkCut_is HP.out HE.out).mono ?_
  rintro e w3 ⟨q9, n9, m9, er, rfl, her, hb⟩
  have HER := Lib.hid her
  have hfl9 := wr_field1 (.slice q9 n9 m9) (.int .i64 er) w3
  clear her
  have HB_ := Lib.hid (bOn6 HB.out hb)
  have HP_ := Lib.hid (HP.out.below hb)
  have HE_ := Lib.hid (HE.out.below hb)
  have HSD_ := Lib.hid (HSD.out.below hb)
  clear HB HP HE HSD
  have HB := HB_
  have HP := HP_
  have HE := HE_
  have HSD := HSD_
  clear HB_ HP_ HE_ HSD_
  clear hb
  by_cases hq : OkC l es
  case neg =>
    have d9 : (er != 0) = true := by
      simp only [bne_iff_ne, ne_eq]
      exact fun e => hq (HER.out.1 e)
    have d9b : (er == 0) = false := by simpa using d9
    go_wp2_with fail
    go_ret
    exact ⟨rfl, HB.out⟩
  have d9 : (er != 0) = false := by
    simp only [bne_eq_false_iff_eq]
    exact HER.out.2 hq
  have d9b : (er == 0) = true := by simpa using d9
  obtain ⟨E, rfl⟩ := zE_ofF hq.e
  have HOK := Lib.hid hq
  clear hq
  go_wp2_with fail
  clear d9 d9b hfl9 HER
  refine (call_is _ _ _ _ _ HP.out HE.out HOK.out).mono ?_
  rintro e w4 ⟨av, L, rfl, hS, hQ, hb⟩
  have HS := Lib.hid hS
  have HQ := Lib.hid hQ
  obtain ⟨ab, ao, ac, e9, -⟩ := hS
  subst e9
  rw [hQ.len] at HS ⊢
  clear hQ
  have HB_ := Lib.hid (bOn6 HB.out hb)
  have HP_ := Lib.hid (HP.out.below hb)
  have HE_ := Lib.hid (HE.out.below hb)
  have HSD_ := Lib.hid (HSD.out.below hb)
  clear HB HP HE HSD
  have HB := HB_
  have HP := HP_
  have HE := HE_
  have HSD := HSD_
  clear HB_ HP_ HE_ HSD_
  clear hb
  have HNB : Hid (2 ≤ N ∧ N ≤ 24 ∧ E.length ≤ 80) := Lib.hid (by
    have a := HFW.out
    have b := HOK.out.two
    rw [HN.out] at a b
    have c := a.2
    rw [zE_len] at c
    exact ⟨b, a.1, c⟩)
  have HSM := Lib.hid HOK.out.small
  go_wp2_with fail
  go_loopw [9, 10, 11, 12, 13] (fun iv _ _ _ _ wr => FairRel w4 iv wr) (fun iv _ _ _ _ _ => 12 - (intOf iv).toNat)
  case atStart => exact ⟨0, Nat.zero_le _, rfl, Below.refl _ _⟩
  case round =>
    obtain ⟨i, hi, rfl, hb⟩ := hrel
    obtain ⟨wl, rfl⟩ : ∃ x, x = wr := ⟨_, rfl⟩
    have HB_ := Lib.hid (bOn6 HB.out hb)
    have HP_ := Lib.hid (HP.out.below hb)
    have HE_ := Lib.hid (HE.out.below hb)
    have HSD_ := Lib.hid (HSD.out.below hb)
    have HS_ := Lib.hid (HS.out.below hb)
    clear HB HP HE HSD HS
    have HB := HB_
    have HP := HP_
    have HE := HE_
    have HSD := HSD_
    have HS := HS_
    clear HB_ HP_ HE_ HSD_ HS_
    have HBX := Lib.hid hb
    clear hb
    by_cases hlt : i < 12
    case neg =>
      obtain rfl : i = 12 := by omega
      clear hlt hi
      go_wp2_with fail
      go_ret
      exact ⟨rfl, HB.out⟩
    obtain ⟨D, hD⟩ : ∃ D, i / 3 = D := ⟨_, rfl⟩
    obtain ⟨K, hK⟩ : ∃ K, i % 3 = K := ⟨_, rfl⟩
    have hDK : i = 3 * D + K ∧ K < 3 ∧ D < 4 := by omega
    have HDK := Lib.hid hDK
    have q1 : (i : Int).tdiv 3 = (D : Int) := by rw [← hD]; rfl
    have q2 : IntKind.i64.wrap ((i : Int).tdiv 3) = (D : Int) := by rw [q1]; exact IntWalk.i64_in _ (by omega)
    have q3 : (i : Int) / 3 = (D : Int) := by omega
    have q4 : (i : Int).tmod 3 = (K : Int) := by rw [← hK]; rfl
    have q5 : (i : Int) % 3 = (K : Int) := by omega
    have q6 : IntKind.i64.wrap (D : Int) = (D : Int) := IntWalk.i64_in _ (by omega)
    have HI : Hid (i < 12 ∧ (i : Int) < 12) := Lib.hid ⟨hlt, by omega⟩
    obtain ⟨x, hx⟩ : ∃ x, L[i]? = some x := ⟨_, List.getElem?_eq_getElem (by rw [HQ.out.len]; exact hlt)⟩
    have hone := HQ.out.one hx
    have hlen : x.side.length = N := by rw [hone.len, HN.out]
    have hfair := hone.fair (by have := HNB.out.1; rw [HN.out]; exact this)
    have hcr := hone.cross
    have hdir : x.dir = (D : Int) := by rw [hone.dir, hD]
    have hkind : x.kind = (K : Int) := by rw [hone.kind, hK]
    obtain ⟨XS, XC, XD, XK⟩ := x
    simp only at hlen hfair hcr hdir hkind
    subst hdir hkind
    obtain ⟨xv, xb, c0, c1, c2, c3, cl⟩ := HS.out.at4 hx
    simp only at xb c1 c2 c3
    obtain ⟨xq, xc, rfl⟩ := xb.shapeN hlen
    have X0 := Lib.hid c0
    have X1 := Lib.hid c1
    have X2 := Lib.hid c2
    have X3 := Lib.hid c3
    have XB := Lib.hid xb
    have HX := Lib.hid hx
    have HFA := Lib.hid hfair
    have HCR : Hid (crossS (setB XS) E = XC) := Lib.hid hcr.symm
    have HXL : Hid (XS.length ≤ 100000) := Lib.hid (by rw [hlen]; have := HNB.out; omega)
    have HEL : Hid (E.length ≤ 16384) := Lib.hid (by have := HNB.out; omega)
    have hki : (i : Int) < 12 := by omega
    have DS0 : Hid (GG.BelL wl (fun _ => false) () wl.drew) := Lib.hid ⟨(Below.refl _ _).drew⟩
    clear c0 c1 c2 c3 cl xb hx hone hlen hfair hcr hD hK hDK
    go_wp2_with fail
    refine' GG.wp_growL _ (GG.BelL wl) [[], [], [0, 1], [0, 1, 2], [0, 1, 2, 3], [0, 1, 2, 3, 4], [], [6], [0, 1, 2, 3, 4, 5, 6, 7], [0, 1, 2, 3, 4, 5, 6, 7, 8], [0, 1, 2, 3, 4, 5, 6, 7, 8, 9], [0, 1, 2, 3, 4, 5, 6, 7, 8, 9], [0, 1, 2, 3, 4, 5, 6, 7, 8, 9, 10, 11], [0, 1, 2, 3, 4, 5, 6, 7, 8, 9, 10, 11, 12], [0, 1, 2, 3, 4, 5, 6, 7, 8, 9, 10, 11, 12, 13], [0, 1, 2, 3, 4, 5, 6, 7, 8, 9, 10, 11, 12, 13, 14], [0, 1, 2, 3, 4, 5, 6, 7, 8, 9, 10, 11, 12, 13, 14, 15], [0, 1, 2, 3, 4, 5, 6, 7, 8, 9, 10, 11, 12, 13, 14, 15, 16], [0, 1, 2, 3, 4, 5, 6, 7, 8, 9, 10, 11, 12, 13, 14, 15, 16, 17], [0, 1, 2, 3, 4, 5, 6, 7, 8, 9, 10, 11, 12, 13, 14, 15, 16, 17, 18], [0, 1, 2, 3, 4, 5, 6, 7, 8, 9, 10, 11, 12, 13, 14, 15, 16, 17, 18], [0, 1, 2, 3, 4, 5, 6, 7, 8, 9, 10, 11, 12, 13, 14, 15, 16, 17, 18, 19, 20], [0, 1, 2, 3, 4, 5, 6, 7, 8, 9, 10, 11, 12, 13, 14, 15, 16, 17, 18, 19, 20, 21], [0, 1, 2, 3, 4, 5, 6, 7, 8, 9, 10, 11, 12, 13, 14, 15, 16, 17, 18, 19, 20, 21, 22], [0, 1, 2, 3, 4, 5, 6, 7, 8, 9, 10, 11, 12, 13, 14, 15, 16, 17, 18], [0, 1, 2, 3, 4, 5, 6, 7, 8, 9, 10, 11, 12, 13, 14, 15, 16, 17, 18], [0, 1, 2, 3, 4, 5, 6, 7, 8, 9, 10, 11, 12, 13, 14, 15, 16, 17, 18, 24, 25], [0, 1, 2, 3, 4, 5, 6, 7, 8, 9, 10, 11, 12, 13, 14, 15, 16, 17, 18, 24, 25, 26], [0, 1, 2, 3, 4, 5, 6, 7, 8, 9, 10, 11, 12, 13, 14, 15, 16, 17, 18, 24, 25, 26, 27], [0, 1, 2, 3, 4, 5, 6, 7, 8, 9, 10, 11, 12, 13, 14, 15, 16, 17, 18], [0, 1, 2, 3, 4, 5, 6, 7, 8, 9, 10, 11, 12, 13, 14, 15, 16, 17, 18, 24, 25, 26, 27, 28, 29], [0, 1, 2, 3, 4, 5, 6, 7, 8, 9, 10, 11, 12, 13, 14, 15, 16, 17, 18, 19, 20, 21, 22, 23, 24, 25, 26, 27, 28, 29, 30], [0, 1, 2, 3, 4, 5, 6, 7, 8, 9, 10, 11, 12, 13, 14, 15, 16, 17, 18, 19, 20, 21, 22, 23, 24, 25, 26, 27, 28, 29, 30, 31], [0, 1, 2, 3, 4, 5, 6, 7, 8, 9, 10, 11, 12, 13, 14, 15, 16, 17, 18, 19, 20, 21, 22, 23, 24, 25, 26, 27, 28, 29, 30, 31, 32], [0, 1, 2, 3, 4, 5, 6, 7, 8, 9, 10, 11, 12, 13, 14, 15, 16, 17, 18, 19, 20, 21, 22, 23, 24, 25, 26, 27, 28, 29, 30, 31, 32, 33], [0, 1, 2, 3, 4, 5, 6, 7, 8, 9, 10, 11, 12, 13, 14, 15, 16, 17, 18, 19, 20, 21, 22, 23, 24, 25, 26, 27, 28, 29, 30, 31, 32, 33], [0, 1, 2, 3, 4, 5, 6, 7, 8, 9, 10, 11, 12, 13, 14, 15, 16, 17, 18, 19, 20, 21, 22, 23, 24, 25, 26, 27, 28, 29, 30, 31, 32, 33, 34, 35], [0, 1, 2, 3, 4, 5, 6, 7, 8, 9, 10, 11, 12, 13, 14, 15, 16, 17, 18, 19, 20, 21, 22, 23, 24, 25, 26, 27, 28, 29, 30, 31, 32, 33, 34, 35, 36], [0, 1, 2, 3, 4, 5, 6, 7, 8, 9, 10, 11, 12, 13, 14, 15, 16, 17, 18, 19, 20, 21, 22, 23, 24, 25, 26, 27, 28, 29, 30, 31, 32, 33, 34, 35, 36, 37], [0, 1, 2, 3, 4, 5, 6, 7, 8, 9, 10, 11, 12, 13, 14, 15, 16, 17, 18, 19, 20, 21, 22, 23, 24, 25, 26, 27, 28, 29, 30, 31, 32, 33], [0, 1, 2, 3, 4, 5, 6, 7, 8, 9, 10, 11, 12, 13, 14, 15, 16, 17, 18, 19, 20, 21, 22, 23, 24, 25, 26, 27, 28, 29, 30, 31, 32, 33, 39], [0, 1, 2, 3, 4, 5, 6, 7, 8, 9, 10, 11, 12, 13, 14, 15, 16, 17, 18, 19, 20, 21, 22, 23, 24, 25, 26, 27, 28, 29, 30, 31, 32, 33, 34, 35, 36, 37, 38, 39, 40], [0, 1, 2, 3, 4, 5, 6, 7, 8, 9, 10, 11, 12, 13, 14, 15, 16, 17, 18, 19, 20, 21, 22, 23, 24, 25, 26, 27, 28, 29, 30, 31, 32, 33, 34, 35, 36, 37, 38, 39, 40, 41], [0, 1, 2, 3, 4, 5, 6, 7, 8, 9, 10, 11, 12, 13, 14, 15, 16, 17, 18, 19, 20, 21, 22, 23, 24, 25, 26, 27, 28, 29, 30, 31, 32, 33, 34, 35, 36, 37, 38, 39, 40, 41, 42], [0, 1, 2, 3, 4, 5, 6, 7, 8, 9, 10, 11, 12, 13, 14, 15, 16, 17, 18, 19, 20, 21, 22, 23, 24, 25, 26, 27, 28, 29, 30, 31, 32, 33, 34, 35, 36, 37, 38, 39, 40, 41, 42, 43], [0, 1, 2, 3, 4, 5, 6, 7, 8, 9, 10, 11, 12, 13, 14, 15, 16, 17, 18, 19, 20, 21, 22, 23, 24, 25, 26, 27, 28, 29, 30, 31, 32, 33, 34, 35, 36, 37, 38, 39, 40, 41, 42, 43], [0, 1, 2, 3, 4, 5, 6, 7, 8, 9, 10, 11, 12, 13, 14, 15, 16, 17, 18, 19, 20, 21, 22, 23, 24, 25, 26, 27, 28, 29, 30, 31, 32, 33, 34, 35, 36, 37, 38, 39, 40, 41, 42, 43, 44, 45], [0, 1, 2, 3, 4, 5, 6, 7, 8, 9, 10, 11, 12, 13, 14, 15, 16, 17, 18, 19, 20, 21, 22, 23, 24, 25, 26, 27, 28, 29, 30, 31, 32, 33, 34, 35, 36, 37, 38, 39, 40, 41, 42, 43, 44, 45, 46], [0, 1, 2, 3, 4, 5, 6, 7, 8, 9, 10, 11, 12, 13, 14, 15, 16, 17, 18, 19, 20, 21, 22, 23, 24, 25, 26, 27, 28, 29, 30, 31, 32, 33, 34, 35, 36, 37, 38, 39, 40, 41, 42, 43, 44, 45, 46, 47], [0, 1, 2, 3, 4, 5, 6, 7, 8, 9, 10, 11, 12, 13, 14, 15, 16, 17, 18, 19, 20, 21, 22, 23, 24, 25, 26, 27, 28, 29, 30, 31, 32, 33, 34, 35, 36, 37, 38, 39, 40, 41, 42, 43], [0, 1, 2, 3, 4, 5, 6, 7, 8, 9, 10, 11, 12, 13, 14, 15, 16, 17, 18, 19, 20, 21, 22, 23, 24, 25, 26, 27, 28, 29, 30, 31, 32, 33, 34, 35, 36, 37, 38, 39, 40, 41, 42, 43, 49], [0, 1, 2, 3, 4, 5, 6, 7, 8, 9, 10, 11, 12, 13, 14, 15, 16, 17, 18, 19, 20, 21, 22, 23, 24, 25, 26, 27, 28, 29, 30, 31, 32, 33, 34, 35, 36, 37, 38, 39, 40, 41, 42, 43, 44, 45, 46, 47, 48, 49, 50], [0, 1, 2, 3, 4, 5, 6, 7, 8, 9, 10, 11, 12, 13, 14, 15, 16, 17, 18, 19, 20, 21, 22, 23, 24, 25, 26, 27, 28, 29, 30, 31, 32, 33, 34, 35, 36, 37, 38, 39, 40, 41, 42, 43, 44, 45, 46, 47, 48, 49, 50, 51]] (GG.Fact.lit (Rl := GG.RlL) _ :: GG.Fact.lit (Rl := GG.RlL) _ :: GG.Fact.lit (Rl := GG.RlL) _ :: GG.Fact.lit (Rl := GG.RlL) _ :: GG.Fact.lit (Rl := GG.RlL) _ :: GG.Fact.lit (Rl := GG.RlL) _ :: GG.Fact.lit (Rl := GG.RlL) _ :: GG.Fact.lit (Rl := GG.RlL) _ :: GG.Fact.lit (Rl := GG.RlL) _ :: GG.Fact.lit (Rl := GG.RlL) _ :: GG.Fact.lit (Rl := GG.RlL) _ :: GG.Fact.lit (Rl := GG.RlL) _ :: GG.Fact.lit (Rl := GG.RlL) _ :: GG.Fact.lit (Rl := GG.RlL) _ :: GG.Fact.lit (Rl := GG.RlL) _ :: GG.Fact.lit (Rl := GG.RlL) _ :: GG.Fact.lit (Rl := GG.RlL) _ :: GG.Fact.lit (Rl := GG.RlL) _ :: GG.Fact.lit (Rl := GG.RlL) _ :: GG.Fact.lit (Rl := GG.RlL) _ :: GG.Fact.lit (Rl := GG.RlL) _ :: GG.Fact.lit (Rl := GG.RlL) _ :: GG.Fact.lit (Rl := GG.RlL) _ :: GG.Fact.lit (Rl := GG.RlL) _ :: GG.Fact.lit (Rl := GG.RlL) _ :: GG.Fact.lit (Rl := GG.RlL) _ :: GG.Fact.lit (Rl := GG.RlL) _ :: GG.Fact.lit (Rl := GG.RlL) _ :: GG.Fact.lit (Rl := GG.RlL) _ :: GG.Fact.lit (Rl := GG.RlL) _ :: GG.Fact.lit (Rl := GG.RlL) _ :: GG.Fact.lit (Rl := GG.RlL) _ :: GG.Fact.lit (Rl := GG.RlL) _ :: GG.Fact.lit (Rl := GG.RlL) _ :: GG.Fact.lit (Rl := GG.RlL) _ :: GG.Fact.lit (Rl := GG.RlL) _ :: GG.Fact.lit (Rl := GG.RlL) _ :: GG.Fact.lit (Rl := GG.RlL) _ :: GG.Fact.lit (Rl := GG.RlL) _ :: GG.Fact.lit (Rl := GG.RlL) _ :: GG.Fact.lit (Rl := GG.RlL) _ :: GG.Fact.lit (Rl := GG.RlL) _ :: GG.Fact.lit (Rl := GG.RlL) _ :: GG.Fact.lit (Rl := GG.RlL) _ :: GG.Fact.lit (Rl := GG.RlL) _ :: GG.Fact.lit (Rl := GG.RlL) _ :: GG.Fact.lit (Rl := GG.RlL) _ :: GG.Fact.lit (Rl := GG.RlL) _ :: GG.Fact.lit (Rl := GG.RlL) _ :: GG.Fact.lit (Rl := GG.RlL) _ :: GG.Fact.lit (Rl := GG.RlL) _ :: GG.Fact.lit (Rl := GG.RlL) _ :: GG.Fact.lit (Rl := GG.RlL) _ :: []) (by kernel_rfl) rfl (by kernel_rfl) (()) (DS0.out) ?seqfa
    case' seqfa => skip
    (refine' GG.grow_lit (GG.BelL.still) rfl ?wtfa0 ?runfa0 ?putfa0 ?nextfa0; (case wtfa0 => rfl); (case runfa0 => (intro w' hS; (obtain ⟨dn, s, hS⟩ := hS); (have x0 := keep hS.b X0.out); (have x1 := keep hS.b X1.out); (have x2 := keep hS.b X2.out); (have x3 := keep hS.b X3.out); (have xl := World.block_lt_of_cell? _ _ x0); (obtain ⟨hlt, hki⟩ := HI.out); clear hS; go_simp; first | done | exact rfl)); (case putfa0 => (first | (simp only [Act.put, List.setIfInBounds_toArray, List.set_cons_zero, List.set_cons_succ]; first | done | exact rfl) | rfl)); (case' nextfa0 => skip))
    (refine' GG.grow_lit (GG.BelL.still) rfl ?wtfa1 ?runfa1 ?putfa1 ?nextfa1; (case wtfa1 => rfl); (case runfa1 => (intro w' hS; (obtain ⟨dn, s, hS⟩ := hS); (have x0 := keep hS.b X0.out); (have x1 := keep hS.b X1.out); (have x2 := keep hS.b X2.out); (have x3 := keep hS.b X3.out); (have xl := World.block_lt_of_cell? _ _ x0); (obtain ⟨hlt, hki⟩ := HI.out); clear hS; go_simp; first | done | exact rfl)); (case putfa1 => (first | (simp only [Act.put, List.setIfInBounds_toArray, List.set_cons_zero, List.set_cons_succ]; first | done | exact rfl) | rfl)); (case' nextfa1 => skip))
    (refine' GG.grow_lit (GG.BelL.still) rfl ?wtfa2 ?runfa2 ?putfa2 ?nextfa2; (case wtfa2 => rfl); (case runfa2 => (intro w' hS; (obtain ⟨dn, s, hS⟩ := hS); (have x0 := keep hS.b X0.out); (have x1 := keep hS.b X1.out); (have x2 := keep hS.b X2.out); (have x3 := keep hS.b X3.out); (have xl := World.block_lt_of_cell? _ _ x0); (obtain ⟨hlt, hki⟩ := HI.out); clear hS; go_simp; first | done | exact rfl)); (case putfa2 => (first | (simp only [Act.put, List.setIfInBounds_toArray, List.set_cons_zero, List.set_cons_succ]; first | done | exact rfl) | rfl)); (case' nextfa2 => skip))
    (refine' GG.grow_lit (GG.BelL.still) rfl ?wtfa3 ?runfa3 ?putfa3 ?nextfa3; (case wtfa3 => rfl); (case runfa3 => (intro w' hS; (obtain ⟨dn, s, hS⟩ := hS); (have x0 := keep hS.b X0.out); (have x1 := keep hS.b X1.out); (have x2 := keep hS.b X2.out); (have x3 := keep hS.b X3.out); (have xl := World.block_lt_of_cell? _ _ x0); (obtain ⟨hlt, hki⟩ := HI.out); clear hS; go_simp; first | done | exact rfl)); (case putfa3 => (first | (simp only [Act.put, List.setIfInBounds_toArray, List.set_cons_zero, List.set_cons_succ]; first | done | exact rfl) | rfl)); (case' nextfa3 => skip))
    (refine' GG.grow_lit (GG.BelL.still) rfl ?wtfa4 ?runfa4 ?putfa4 ?nextfa4; (case wtfa4 => rfl); (case runfa4 => (intro w' hS; (obtain ⟨dn, s, hS⟩ := hS); (have x0 := keep hS.b X0.out); (have x1 := keep hS.b X1.out); (have x2 := keep hS.b X2.out); (have x3 := keep hS.b X3.out); (have xl := World.block_lt_of_cell? _ _ x0); (obtain ⟨hlt, hki⟩ := HI.out); clear hS; go_simp; first | done | exact rfl)); (case putfa4 => (first | (simp only [Act.put, List.setIfInBounds_toArray, List.set_cons_zero, List.set_cons_succ]; first | done | exact rfl) | rfl)); (case' nextfa4 => skip))
    (refine' GG.grow_lit (GG.BelL.still) rfl ?wtfa5 ?runfa5 ?putfa5 ?nextfa5; (case wtfa5 => rfl); (case runfa5 => (intro w' hS; (obtain ⟨dn, s, hS⟩ := hS); (have x0 := keep hS.b X0.out); (have x1 := keep hS.b X1.out); (have x2 := keep hS.b X2.out); (have x3 := keep hS.b X3.out); (have xl := World.block_lt_of_cell? _ _ x0); (obtain ⟨hlt, hki⟩ := HI.out); clear hS; go_simp; first | done | exact rfl)); (case putfa5 => (first | (simp only [Act.put, List.setIfInBounds_toArray, List.set_cons_zero, List.set_cons_succ]; first | done | exact rfl) | rfl)); (case' nextfa5 => skip))
    (refine' GG.grow_lit (GG.BelL.still) rfl ?wtfa6 ?runfa6 ?putfa6 ?nextfa6; (case wtfa6 => rfl); (case runfa6 => (intro w' hS; (obtain ⟨dn, s, hS⟩ := hS); (have x0 := keep hS.b X0.out); (have x1 := keep hS.b X1.out); (have x2 := keep hS.b X2.out); (have x3 := keep hS.b X3.out); (have xl := World.block_lt_of_cell? _ _ x0); (obtain ⟨hlt, hki⟩ := HI.out); clear hS; go_simp; first | done | exact rfl)); (case putfa6 => (first | (simp only [Act.put, List.setIfInBounds_toArray, List.set_cons_zero, List.set_cons_succ]; first | done | exact rfl) | rfl)); (case' nextfa6 => skip))
    (refine' GG.grow_lit (GG.BelL.still) rfl ?wtfa7 ?runfa7 ?putfa7 ?nextfa7; (case wtfa7 => rfl); (case runfa7 => (intro w' hS; (obtain ⟨dn, s, hS⟩ := hS); (have x0 := keep hS.b X0.out); (have x1 := keep hS.b X1.out); (have x2 := keep hS.b X2.out); (have x3 := keep hS.b X3.out); (have xl := World.block_lt_of_cell? _ _ x0); (obtain ⟨hlt, hki⟩ := HI.out); clear hS; go_simp; first | done | exact rfl)); (case putfa7 => (first | (simp only [Act.put, List.setIfInBounds_toArray, List.set_cons_zero, List.set_cons_succ]; first | done | exact rfl) | rfl)); (case' nextfa7 => skip))
    (refine' GG.grow_lit (GG.BelL.still) rfl ?wtfa8 ?runfa8 ?putfa8 ?nextfa8; (case wtfa8 => rfl); (case runfa8 => (intro w' hS; (obtain ⟨dn, s, hS⟩ := hS); (have x0 := keep hS.b X0.out); (have x1 := keep hS.b X1.out); (have x2 := keep hS.b X2.out); (have x3 := keep hS.b X3.out); (have xl := World.block_lt_of_cell? _ _ x0); (obtain ⟨hlt, hki⟩ := HI.out); clear hS; go_simp; first | done | exact rfl)); (case putfa8 => (first | (simp only [Act.put, List.setIfInBounds_toArray, List.set_cons_zero, List.set_cons_succ]; first | done | exact rfl) | rfl)); (case' nextfa8 => skip))
    (refine' GG.grow_lit (GG.BelL.still) rfl ?wtfa9 ?runfa9 ?putfa9 ?nextfa9; (case wtfa9 => rfl); (case runfa9 => (intro w' hS; (obtain ⟨dn, s, hS⟩ := hS); (have x0 := keep hS.b X0.out); (have x1 := keep hS.b X1.out); (have x2 := keep hS.b X2.out); (have x3 := keep hS.b X3.out); (have xl := World.block_lt_of_cell? _ _ x0); (obtain ⟨hlt, hki⟩ := HI.out); clear hS; go_simp; first | done | exact rfl)); (case putfa9 => (first | (simp only [Act.put, List.setIfInBounds_toArray, List.set_cons_zero, List.set_cons_succ]; first | done | exact rfl) | rfl)); (case' nextfa9 => skip))
    (refine' GG.grow_lit (GG.BelL.still) rfl ?wtfa10 ?runfa10 ?putfa10 ?nextfa10; (case wtfa10 => rfl); (case runfa10 => (intro w' hS; (obtain ⟨dn, s, hS⟩ := hS); (have x0 := keep hS.b X0.out); (have x1 := keep hS.b X1.out); (have x2 := keep hS.b X2.out); (have x3 := keep hS.b X3.out); (have xl := World.block_lt_of_cell? _ _ x0); (obtain ⟨hlt, hki⟩ := HI.out); clear hS; go_simp; first | done | exact rfl)); (case putfa10 => (first | (simp only [Act.put, List.setIfInBounds_toArray, List.set_cons_zero, List.set_cons_succ]; first | done | exact rfl) | rfl)); (case' nextfa10 => skip))
    (refine' GG.grow_lit (GG.BelL.still) rfl ?wtfa11 ?runfa11 ?putfa11 ?nextfa11; (case wtfa11 => rfl); (case runfa11 => (intro w' hS; (obtain ⟨dn, s, hS⟩ := hS); (have x0 := keep hS.b X0.out); (have x1 := keep hS.b X1.out); (have x2 := keep hS.b X2.out); (have x3 := keep hS.b X3.out); (have xl := World.block_lt_of_cell? _ _ x0); (obtain ⟨hlt, hki⟩ := HI.out); clear hS; go_simp; first | done | exact rfl)); (case putfa11 => (first | (simp only [Act.put, List.setIfInBounds_toArray, List.set_cons_zero, List.set_cons_succ]; first | done | exact rfl) | rfl)); (case' nextfa11 => skip))
    (refine' GG.grow_lit (GG.BelL.still) rfl ?wtfa12 ?runfa12 ?putfa12 ?nextfa12; (case wtfa12 => rfl); (case runfa12 => (intro w' hS; (obtain ⟨dn, s, hS⟩ := hS); (have x0 := keep hS.b X0.out); (have x1 := keep hS.b X1.out); (have x2 := keep hS.b X2.out); (have x3 := keep hS.b X3.out); (have xl := World.block_lt_of_cell? _ _ x0); (obtain ⟨hlt, hki⟩ := HI.out); clear hS; go_simp; first | done | exact rfl)); (case putfa12 => (first | (simp only [Act.put, List.setIfInBounds_toArray, List.set_cons_zero, List.set_cons_succ]; first | done | exact rfl) | rfl)); (case' nextfa12 => skip))
    (refine' GG.grow_lit (GG.BelL.still) rfl ?wtfa13 ?runfa13 ?putfa13 ?nextfa13; (case wtfa13 => rfl); (case runfa13 => (intro w' hS; (obtain ⟨dn, s, hS⟩ := hS); (have x0 := keep hS.b X0.out); (have x1 := keep hS.b X1.out); (have x2 := keep hS.b X2.out); (have x3 := keep hS.b X3.out); (have xl := World.block_lt_of_cell? _ _ x0); (obtain ⟨hlt, hki⟩ := HI.out); clear hS; go_simp; first | done | exact rfl)); (case putfa13 => (first | (simp only [Act.put, List.setIfInBounds_toArray, List.set_cons_zero, List.set_cons_succ]; first | done | exact rfl) | rfl)); (case' nextfa13 => skip))
    (refine' GG.grow_lit (GG.BelL.still) rfl ?wtfa14 ?runfa14 ?putfa14 ?nextfa14; (case wtfa14 => rfl); (case runfa14 => (intro w' hS; (obtain ⟨dn, s, hS⟩ := hS); (have x0 := keep hS.b X0.out); (have x1 := keep hS.b X1.out); (have x2 := keep hS.b X2.out); (have x3 := keep hS.b X3.out); (have xl := World.block_lt_of_cell? _ _ x0); (obtain ⟨hlt, hki⟩ := HI.out); clear hS; go_simp; first | done | exact rfl)); (case putfa14 => (first | (simp only [Act.put, List.setIfInBounds_toArray, List.set_cons_zero, List.set_cons_succ]; first | done | exact rfl) | rfl)); (case' nextfa14 => skip))
    (refine' GG.grow_lit_call (u := .bool true) rfl Tryz.func8 (by kernel_rfl) rfl rfl ?wtfa15 ?runfa15 ?putfa15 ?nextfa15; (case wtfa15 => rfl); (case runfa15 => (intro dn s w' hS hd H; exact (fair_is (XB.out.below hS.b) HXL.out HFA.out).mono (fun e w2 h => ⟨(), h.1, ⟨by rw [← h.2]; exact hS.b⟩, by rw [← h.2]; exact Below.refl _ _, by rw [← h.2]; exact Nat.le_refl _⟩))); (case putfa15 => (first | (simp only [Act.put, List.setIfInBounds_toArray, List.set_cons_zero, List.set_cons_succ]; first | done | exact rfl) | rfl)); (case' nextfa15 => skip))
    (refine' GG.grow_lit (GG.BelL.still) rfl ?wtfa16 ?runfa16 ?putfa16 ?nextfa16; (case wtfa16 => rfl); (case runfa16 => (intro w' hS; (obtain ⟨dn, s, hS⟩ := hS); (have x0 := keep hS.b X0.out); (have x1 := keep hS.b X1.out); (have x2 := keep hS.b X2.out); (have x3 := keep hS.b X3.out); (have xl := World.block_lt_of_cell? _ _ x0); (obtain ⟨hlt, hki⟩ := HI.out); clear hS; go_simp; first | done | exact rfl)); (case putfa16 => (first | (simp only [Act.put, List.setIfInBounds_toArray, List.set_cons_zero, List.set_cons_succ]; first | done | exact rfl) | rfl)); (case' nextfa16 => skip))
    (refine' GG.grow_lit (GG.BelL.still) rfl ?wtfa17 ?runfa17 ?putfa17 ?nextfa17; (case wtfa17 => rfl); (case runfa17 => (intro w' hS; (obtain ⟨dn, s, hS⟩ := hS); (have x0 := keep hS.b X0.out); (have x1 := keep hS.b X1.out); (have x2 := keep hS.b X2.out); (have x3 := keep hS.b X3.out); (have xl := World.block_lt_of_cell? _ _ x0); (obtain ⟨hlt, hki⟩ := HI.out); clear hS; go_simp; first | done | exact rfl)); (case putfa17 => (first | (simp only [Act.put, List.setIfInBounds_toArray, List.set_cons_zero, List.set_cons_succ]; first | done | exact rfl) | rfl)); (case' nextfa17 => skip))
    (refine' GG.grow_lit (GG.BelL.still) rfl ?wtfa18 ?runfa18 ?putfa18 ?nextfa18; (case wtfa18 => rfl); (case runfa18 => (intro w' hS; (obtain ⟨dn, s, hS⟩ := hS); (have x0 := keep hS.b X0.out); (have x1 := keep hS.b X1.out); (have x2 := keep hS.b X2.out); (have x3 := keep hS.b X3.out); (have xl := World.block_lt_of_cell? _ _ x0); (obtain ⟨hlt, hki⟩ := HI.out); clear hS; go_simp; first | done | exact rfl)); (case putfa18 => (first | (simp only [Act.put, List.setIfInBounds_toArray, List.set_cons_zero, List.set_cons_succ]; first | done | exact rfl) | rfl)); (case' nextfa18 => skip))
    (refine' GG.grow_lit (GG.BelL.still) rfl ?wtfa19 ?runfa19 ?putfa19 ?nextfa19; (case wtfa19 => rfl); (case runfa19 => (intro w' hS; (obtain ⟨dn, s, hS⟩ := hS); (have x0 := keep hS.b X0.out); (have x1 := keep hS.b X1.out); (have x2 := keep hS.b X2.out); (have x3 := keep hS.b X3.out); (have xl := World.block_lt_of_cell? _ _ x0); (obtain ⟨hlt, hki⟩ := HI.out); clear hS; go_simp; first | done | exact rfl)); (case putfa19 => (first | (simp only [Act.put, List.setIfInBounds_toArray, List.set_cons_zero, List.set_cons_succ]; first | done | exact rfl) | rfl)); (case' nextfa19 => skip))
    (refine' GG.grow_lit (GG.BelL.still) rfl ?wtfa20 ?runfa20 ?putfa20 ?nextfa20; (case wtfa20 => rfl); (case runfa20 => (intro w' hS; (obtain ⟨dn, s, hS⟩ := hS); (have x0 := keep hS.b X0.out); (have x1 := keep hS.b X1.out); (have x2 := keep hS.b X2.out); (have x3 := keep hS.b X3.out); (have xl := World.block_lt_of_cell? _ _ x0); (obtain ⟨hlt, hki⟩ := HI.out); clear hS; go_simp; first | done | exact rfl)); (case putfa20 => (first | (simp only [Act.put, List.setIfInBounds_toArray, List.set_cons_zero, List.set_cons_succ]; first | done | exact rfl) | rfl)); (case' nextfa20 => skip))
    (refine' GG.grow_lit (GG.BelL.still) rfl ?wtfa21 ?runfa21 ?putfa21 ?nextfa21; (case wtfa21 => rfl); (case runfa21 => (intro w' hS; (obtain ⟨dn, s, hS⟩ := hS); (have x0 := keep hS.b X0.out); (have x1 := keep hS.b X1.out); (have x2 := keep hS.b X2.out); (have x3 := keep hS.b X3.out); (have xl := World.block_lt_of_cell? _ _ x0); (obtain ⟨hlt, hki⟩ := HI.out); clear hS; go_simp; first | done | exact rfl)); (case putfa21 => (first | (simp only [Act.put, List.setIfInBounds_toArray, List.set_cons_zero, List.set_cons_succ]; first | done | exact rfl) | rfl)); (case' nextfa21 => skip))
    (refine' GG.grow_lit (GG.BelL.still) rfl ?wtfa22 ?runfa22 ?putfa22 ?nextfa22; (case wtfa22 => rfl); (case runfa22 => (intro w' hS; (obtain ⟨dn, s, hS⟩ := hS); (have x0 := keep hS.b X0.out); (have x1 := keep hS.b X1.out); (have x2 := keep hS.b X2.out); (have x3 := keep hS.b X3.out); (have xl := World.block_lt_of_cell? _ _ x0); (obtain ⟨hlt, hki⟩ := HI.out); clear hS; go_simp; first | done | exact rfl)); (case putfa22 => (first | (simp only [Act.put, List.setIfInBounds_toArray, List.set_cons_zero, List.set_cons_succ]; first | done | exact rfl) | rfl)); (case' nextfa22 => skip))
    (refine' GG.grow_lit (GG.BelL.still) rfl ?wtfa23 ?runfa23 ?putfa23 ?nextfa23; (case wtfa23 => rfl); (case runfa23 => (intro w' hS; (obtain ⟨dn, s, hS⟩ := hS); (have x0 := keep hS.b X0.out); (have x1 := keep hS.b X1.out); (have x2 := keep hS.b X2.out); (have x3 := keep hS.b X3.out); (have xl := World.block_lt_of_cell? _ _ x0); (obtain ⟨hlt, hki⟩ := HI.out); clear hS; go_simp; first | done | exact rfl)); (case putfa23 => (first | (simp only [Act.put, List.setIfInBounds_toArray, List.set_cons_zero, List.set_cons_succ]; first | done | exact rfl) | rfl)); (case' nextfa23 => skip))
    (refine' GG.grow_lit (GG.BelL.still) rfl ?wtfa24 ?runfa24 ?putfa24 ?nextfa24; (case wtfa24 => rfl); (case runfa24 => (intro w' hS; (obtain ⟨dn, s, hS⟩ := hS); (have x0 := keep hS.b X0.out); (have x1 := keep hS.b X1.out); (have x2 := keep hS.b X2.out); (have x3 := keep hS.b X3.out); (have xl := World.block_lt_of_cell? _ _ x0); (obtain ⟨hlt, hki⟩ := HI.out); clear hS; go_simp; first | done | exact rfl)); (case putfa24 => (first | (simp only [Act.put, List.setIfInBounds_toArray, List.set_cons_zero, List.set_cons_succ]; first | done | exact rfl) | rfl)); (case' nextfa24 => skip))
    (refine' GG.grow_lit (GG.BelL.still) rfl ?wtfa25 ?runfa25 ?putfa25 ?nextfa25; (case wtfa25 => rfl); (case runfa25 => (intro w' hS; (obtain ⟨dn, s, hS⟩ := hS); (have x0 := keep hS.b X0.out); (have x1 := keep hS.b X1.out); (have x2 := keep hS.b X2.out); (have x3 := keep hS.b X3.out); (have xl := World.block_lt_of_cell? _ _ x0); (obtain ⟨hlt, hki⟩ := HI.out); clear hS; go_simp; first | done | exact rfl)); (case putfa25 => (first | (simp only [Act.put, List.setIfInBounds_toArray, List.set_cons_zero, List.set_cons_succ]; first | done | exact rfl) | rfl)); (case' nextfa25 => skip))
    (refine' GG.grow_lit (GG.BelL.still) rfl ?wtfa26 ?runfa26 ?putfa26 ?nextfa26; (case wtfa26 => rfl); (case runfa26 => (intro w' hS; (obtain ⟨dn, s, hS⟩ := hS); (have x0 := keep hS.b X0.out); (have x1 := keep hS.b X1.out); (have x2 := keep hS.b X2.out); (have x3 := keep hS.b X3.out); (have xl := World.block_lt_of_cell? _ _ x0); (obtain ⟨hlt, hki⟩ := HI.out); clear hS; go_simp; first | done | exact rfl)); (case putfa26 => (first | (simp only [Act.put, List.setIfInBounds_toArray, List.set_cons_zero, List.set_cons_succ]; first | done | exact rfl) | rfl)); (case' nextfa26 => skip))
    (refine' GG.grow_lit (GG.BelL.still) rfl ?wtfa27 ?runfa27 ?putfa27 ?nextfa27; (case wtfa27 => rfl); (case runfa27 => (intro w' hS; (obtain ⟨dn, s, hS⟩ := hS); (have x0 := keep hS.b X0.out); (have x1 := keep hS.b X1.out); (have x2 := keep hS.b X2.out); (have x3 := keep hS.b X3.out); (have xl := World.block_lt_of_cell? _ _ x0); (obtain ⟨hlt, hki⟩ := HI.out); clear hS; go_simp; first | done | exact rfl)); (case putfa27 => (first | (simp only [Act.put, List.setIfInBounds_toArray, List.set_cons_zero, List.set_cons_succ]; first | done | exact rfl) | rfl)); (case' nextfa27 => skip))
    (refine' GG.grow_lit (GG.BelL.still) rfl ?wtfa28 ?runfa28 ?putfa28 ?nextfa28; (case wtfa28 => rfl); (case runfa28 => (intro w' hS; (obtain ⟨dn, s, hS⟩ := hS); (have x0 := keep hS.b X0.out); (have x1 := keep hS.b X1.out); (have x2 := keep hS.b X2.out); (have x3 := keep hS.b X3.out); (have xl := World.block_lt_of_cell? _ _ x0); (obtain ⟨hlt, hki⟩ := HI.out); clear hS; go_simp; first | done | exact rfl)); (case putfa28 => (first | (simp only [Act.put, List.setIfInBounds_toArray, List.set_cons_zero, List.set_cons_succ]; first | done | exact rfl) | rfl)); (case' nextfa28 => skip))
    (refine' GG.grow_lit (GG.BelL.still) rfl ?wtfa29 ?runfa29 ?putfa29 ?nextfa29; (case wtfa29 => rfl); (case runfa29 => (intro w' hS; (obtain ⟨dn, s, hS⟩ := hS); (have x0 := keep hS.b X0.out); (have x1 := keep hS.b X1.out); (have x2 := keep hS.b X2.out); (have x3 := keep hS.b X3.out); (have xl := World.block_lt_of_cell? _ _ x0); (obtain ⟨hlt, hki⟩ := HI.out); clear hS; go_simp; first | done | exact rfl)); (case putfa29 => (first | (simp only [Act.put, List.setIfInBounds_toArray, List.set_cons_zero, List.set_cons_succ]; first | done | exact rfl) | rfl)); (case' nextfa29 => skip))
    (refine' GG.grow_lit_call (u := .int .i64 XC) rfl Tryz.func9 (by kernel_rfl) rfl rfl ?wtfa30 ?runfa30 ?putfa30 ?nextfa30; (case wtfa30 => rfl); (case runfa30 => (intro dn s w' hS hd H; exact (ccross_is _ _ _ XS E (XB.out.below hS.b) (HE.out.below hS.b) HEL.out).mono (fun e w2 h => ⟨(), by rw [h.1, HCR.out], ⟨hS.b.trans (h.2.mono hS.b.size)⟩, h.2, h.2.size⟩))); (case putfa30 => (first | (simp only [Act.put, List.setIfInBounds_toArray, List.set_cons_zero, List.set_cons_succ]; first | done | exact rfl) | rfl)); (case' nextfa30 => skip))
    (refine' GG.grow_lit (GG.BelL.still) rfl ?wtfa31 ?runfa31 ?putfa31 ?nextfa31; (case wtfa31 => rfl); (case runfa31 => (intro w' hS; (obtain ⟨dn, s, hS⟩ := hS); (have x0 := keep hS.b X0.out); (have x1 := keep hS.b X1.out); (have x2 := keep hS.b X2.out); (have x3 := keep hS.b X3.out); (have xl := World.block_lt_of_cell? _ _ x0); (obtain ⟨hlt, hki⟩ := HI.out); clear hS; go_simp; first | done | exact rfl)); (case putfa31 => (first | (simp only [Act.put, List.setIfInBounds_toArray, List.set_cons_zero, List.set_cons_succ]; first | done | exact rfl) | rfl)); (case' nextfa31 => skip))
    (refine' GG.grow_lit (GG.BelL.still) rfl ?wtfa32 ?runfa32 ?putfa32 ?nextfa32; (case wtfa32 => rfl); (case runfa32 => (intro w' hS; (obtain ⟨dn, s, hS⟩ := hS); (have x0 := keep hS.b X0.out); (have x1 := keep hS.b X1.out); (have x2 := keep hS.b X2.out); (have x3 := keep hS.b X3.out); (have xl := World.block_lt_of_cell? _ _ x0); (obtain ⟨hlt, hki⟩ := HI.out); clear hS; go_simp; first | done | exact rfl)); (case putfa32 => (first | (simp only [Act.put, List.setIfInBounds_toArray, List.set_cons_zero, List.set_cons_succ]; first | done | exact rfl) | rfl)); (case' nextfa32 => skip))
    (refine' GG.grow_lit (GG.BelL.still) rfl ?wtfa33 ?runfa33 ?putfa33 ?nextfa33; (case wtfa33 => rfl); (case runfa33 => (intro w' hS; (obtain ⟨dn, s, hS⟩ := hS); (have x0 := keep hS.b X0.out); (have x1 := keep hS.b X1.out); (have x2 := keep hS.b X2.out); (have x3 := keep hS.b X3.out); (have xl := World.block_lt_of_cell? _ _ x0); (obtain ⟨hlt, hki⟩ := HI.out); clear hS; go_simp; first | done | exact rfl)); (case putfa33 => (first | (simp only [Act.put, List.setIfInBounds_toArray, List.set_cons_zero, List.set_cons_succ]; first | done | exact rfl) | rfl)); (case' nextfa33 => skip))
    (refine' GG.grow_lit (GG.BelL.still) rfl ?wtfa34 ?runfa34 ?putfa34 ?nextfa34; (case wtfa34 => rfl); (case runfa34 => (intro w' hS; (obtain ⟨dn, s, hS⟩ := hS); (have x0 := keep hS.b X0.out); (have x1 := keep hS.b X1.out); (have x2 := keep hS.b X2.out); (have x3 := keep hS.b X3.out); (have xl := World.block_lt_of_cell? _ _ x0); (obtain ⟨hlt, hki⟩ := HI.out); clear hS; go_simp; first | done | exact rfl)); (case putfa34 => (first | (simp only [Act.put, List.setIfInBounds_toArray, List.set_cons_zero, List.set_cons_succ]; first | done | exact rfl) | rfl)); (case' nextfa34 => skip))
    (refine' GG.grow_lit (GG.BelL.still) rfl ?wtfa35 ?runfa35 ?putfa35 ?nextfa35; (case wtfa35 => rfl); (case runfa35 => (intro w' hS; (obtain ⟨dn, s, hS⟩ := hS); (have x0 := keep hS.b X0.out); (have x1 := keep hS.b X1.out); (have x2 := keep hS.b X2.out); (have x3 := keep hS.b X3.out); (have xl := World.block_lt_of_cell? _ _ x0); (obtain ⟨hlt, hki⟩ := HI.out); clear hS; go_simp; first | done | exact rfl)); (case putfa35 => (first | (simp only [Act.put, List.setIfInBounds_toArray, List.set_cons_zero, List.set_cons_succ]; first | done | exact rfl) | rfl)); (case' nextfa35 => skip))
    (refine' GG.grow_lit (GG.BelL.still) rfl ?wtfa36 ?runfa36 ?putfa36 ?nextfa36; (case wtfa36 => rfl); (case runfa36 => (intro w' hS; (obtain ⟨dn, s, hS⟩ := hS); (have x0 := keep hS.b X0.out); (have x1 := keep hS.b X1.out); (have x2 := keep hS.b X2.out); (have x3 := keep hS.b X3.out); (have xl := World.block_lt_of_cell? _ _ x0); (obtain ⟨hlt, hki⟩ := HI.out); clear hS; go_simp; first | done | exact rfl)); (case putfa36 => (first | (simp only [Act.put, List.setIfInBounds_toArray, List.set_cons_zero, List.set_cons_succ]; first | done | exact rfl) | rfl)); (case' nextfa36 => skip))
    (refine' GG.grow_lit (GG.BelL.still) rfl ?wtfa37 ?runfa37 ?putfa37 ?nextfa37; (case wtfa37 => rfl); (case runfa37 => (intro w' hS; (obtain ⟨dn, s, hS⟩ := hS); (have x0 := keep hS.b X0.out); (have x1 := keep hS.b X1.out); (have x2 := keep hS.b X2.out); (have x3 := keep hS.b X3.out); (have xl := World.block_lt_of_cell? _ _ x0); (obtain ⟨hlt, hki⟩ := HI.out); clear hS; go_simp; first | done | exact rfl)); (case putfa37 => (first | (simp only [Act.put, List.setIfInBounds_toArray, List.set_cons_zero, List.set_cons_succ]; first | done | exact rfl) | rfl)); (case' nextfa37 => skip))
    (refine' GG.grow_lit (GG.BelL.still) rfl ?wtfa38 ?runfa38 ?putfa38 ?nextfa38; (case wtfa38 => rfl); (case runfa38 => (intro w' hS; (obtain ⟨dn, s, hS⟩ := hS); (have x0 := keep hS.b X0.out); (have x1 := keep hS.b X1.out); (have x2 := keep hS.b X2.out); (have x3 := keep hS.b X3.out); (have xl := World.block_lt_of_cell? _ _ x0); (obtain ⟨hlt, hki⟩ := HI.out); clear hS; go_simp; first | done | exact rfl)); (case putfa38 => (first | (simp only [Act.put, List.setIfInBounds_toArray, List.set_cons_zero, List.set_cons_succ]; first | done | exact rfl) | rfl)); (case' nextfa38 => skip))
    (refine' GG.grow_lit (GG.BelL.still) rfl ?wtfa39 ?runfa39 ?putfa39 ?nextfa39; (case wtfa39 => rfl); (case runfa39 => (intro w' hS; (obtain ⟨dn, s, hS⟩ := hS); (have x0 := keep hS.b X0.out); (have x1 := keep hS.b X1.out); (have x2 := keep hS.b X2.out); (have x3 := keep hS.b X3.out); (have xl := World.block_lt_of_cell? _ _ x0); (obtain ⟨hlt, hki⟩ := HI.out); clear hS; go_simp; first | done | exact rfl)); (case putfa39 => (first | (simp only [Act.put, List.setIfInBounds_toArray, List.set_cons_zero, List.set_cons_succ]; first | done | exact rfl) | rfl)); (case' nextfa39 => skip))
    (refine' GG.grow_lit (GG.BelL.still) rfl ?wtfa40 ?runfa40 ?putfa40 ?nextfa40; (case wtfa40 => rfl); (case runfa40 => (intro w' hS; (obtain ⟨dn, s, hS⟩ := hS); (have x0 := keep hS.b X0.out); (have x1 := keep hS.b X1.out); (have x2 := keep hS.b X2.out); (have x3 := keep hS.b X3.out); (have xl := World.block_lt_of_cell? _ _ x0); (obtain ⟨hlt, hki⟩ := HI.out); clear hS; go_simp; first | done | exact rfl)); (case putfa40 => (first | (simp only [Act.put, List.setIfInBounds_toArray, List.set_cons_zero, List.set_cons_succ]; first | done | exact rfl) | rfl)); (case' nextfa40 => skip))
    (refine' GG.grow_lit (GG.BelL.still) rfl ?wtfa41 ?runfa41 ?putfa41 ?nextfa41; (case wtfa41 => rfl); (case runfa41 => (intro w' hS; (obtain ⟨dn, s, hS⟩ := hS); (have x0 := keep hS.b X0.out); (have x1 := keep hS.b X1.out); (have x2 := keep hS.b X2.out); (have x3 := keep hS.b X3.out); (have xl := World.block_lt_of_cell? _ _ x0); (obtain ⟨hlt, hki⟩ := HI.out); clear hS; go_simp; first | done | exact rfl)); (case putfa41 => (first | (simp only [Act.put, List.setIfInBounds_toArray, List.set_cons_zero, List.set_cons_succ]; first | done | exact rfl) | rfl)); (case' nextfa41 => skip))
    (refine' GG.grow_lit (GG.BelL.still) rfl ?wtfa42 ?runfa42 ?putfa42 ?nextfa42; (case wtfa42 => rfl); (case runfa42 => (intro w' hS; (obtain ⟨dn, s, hS⟩ := hS); (have x0 := keep hS.b X0.out); (have x1 := keep hS.b X1.out); (have x2 := keep hS.b X2.out); (have x3 := keep hS.b X3.out); (have xl := World.block_lt_of_cell? _ _ x0); (obtain ⟨hlt, hki⟩ := HI.out); clear hS; go_simp; first | done | exact rfl)); (case putfa42 => (first | (simp only [Act.put, List.setIfInBounds_toArray, List.set_cons_zero, List.set_cons_succ]; first | done | exact rfl) | rfl)); (case' nextfa42 => skip))
    (refine' GG.grow_lit (GG.BelL.still) rfl ?wtfa43 ?runfa43 ?putfa43 ?nextfa43; (case wtfa43 => rfl); (case runfa43 => (intro w' hS; (obtain ⟨dn, s, hS⟩ := hS); (have x0 := keep hS.b X0.out); (have x1 := keep hS.b X1.out); (have x2 := keep hS.b X2.out); (have x3 := keep hS.b X3.out); (have xl := World.block_lt_of_cell? _ _ x0); (obtain ⟨hlt, hki⟩ := HI.out); clear hS; go_simp; first | done | exact rfl)); (case putfa43 => (first | (simp only [Act.put, List.setIfInBounds_toArray, List.set_cons_zero, List.set_cons_succ]; first | done | exact rfl) | rfl)); (case' nextfa43 => skip))
    (refine' GG.grow_lit (GG.BelL.still) rfl ?wtfa44 ?runfa44 ?putfa44 ?nextfa44; (case wtfa44 => rfl); (case runfa44 => (intro w' hS; (obtain ⟨dn, s, hS⟩ := hS); (have x0 := keep hS.b X0.out); (have x1 := keep hS.b X1.out); (have x2 := keep hS.b X2.out); (have x3 := keep hS.b X3.out); (have xl := World.block_lt_of_cell? _ _ x0); (obtain ⟨hlt, hki⟩ := HI.out); clear hS; go_simp; first | done | exact rfl)); (case putfa44 => (first | (simp only [Act.put, List.setIfInBounds_toArray, List.set_cons_zero, List.set_cons_succ]; first | done | exact rfl) | rfl)); (case' nextfa44 => skip))
    (refine' GG.grow_lit (GG.BelL.still) rfl ?wtfa45 ?runfa45 ?putfa45 ?nextfa45; (case wtfa45 => rfl); (case runfa45 => (intro w' hS; (obtain ⟨dn, s, hS⟩ := hS); (have x0 := keep hS.b X0.out); (have x1 := keep hS.b X1.out); (have x2 := keep hS.b X2.out); (have x3 := keep hS.b X3.out); (have xl := World.block_lt_of_cell? _ _ x0); (obtain ⟨hlt, hki⟩ := HI.out); clear hS; go_simp; first | done | exact rfl)); (case putfa45 => (first | (simp only [Act.put, List.setIfInBounds_toArray, List.set_cons_zero, List.set_cons_succ]; first | done | exact rfl) | rfl)); (case' nextfa45 => skip))
    (refine' GG.grow_lit (GG.BelL.still) rfl ?wtfa46 ?runfa46 ?putfa46 ?nextfa46; (case wtfa46 => rfl); (case runfa46 => (intro w' hS; (obtain ⟨dn, s, hS⟩ := hS); (have x0 := keep hS.b X0.out); (have x1 := keep hS.b X1.out); (have x2 := keep hS.b X2.out); (have x3 := keep hS.b X3.out); (have xl := World.block_lt_of_cell? _ _ x0); (obtain ⟨hlt, hki⟩ := HI.out); clear hS; go_simp; first | done | exact rfl)); (case putfa46 => (first | (simp only [Act.put, List.setIfInBounds_toArray, List.set_cons_zero, List.set_cons_succ]; first | done | exact rfl) | rfl)); (case' nextfa46 => skip))
    (refine' GG.grow_lit (GG.BelL.still) rfl ?wtfa47 ?runfa47 ?putfa47 ?nextfa47; (case wtfa47 => rfl); (case runfa47 => (intro w' hS; (obtain ⟨dn, s, hS⟩ := hS); (have x0 := keep hS.b X0.out); (have x1 := keep hS.b X1.out); (have x2 := keep hS.b X2.out); (have x3 := keep hS.b X3.out); (have xl := World.block_lt_of_cell? _ _ x0); (obtain ⟨hlt, hki⟩ := HI.out); clear hS; go_simp; first | done | exact rfl)); (case putfa47 => (first | (simp only [Act.put, List.setIfInBounds_toArray, List.set_cons_zero, List.set_cons_succ]; first | done | exact rfl) | rfl)); (case' nextfa47 => skip))
    (refine' GG.grow_lit (GG.BelL.still) rfl ?wtfa48 ?runfa48 ?putfa48 ?nextfa48; (case wtfa48 => rfl); (case runfa48 => (intro w' hS; (obtain ⟨dn, s, hS⟩ := hS); (have x0 := keep hS.b X0.out); (have x1 := keep hS.b X1.out); (have x2 := keep hS.b X2.out); (have x3 := keep hS.b X3.out); (have xl := World.block_lt_of_cell? _ _ x0); (obtain ⟨hlt, hki⟩ := HI.out); clear hS; go_simp; first | done | exact rfl)); (case putfa48 => (first | (simp only [Act.put, List.setIfInBounds_toArray, List.set_cons_zero, List.set_cons_succ]; first | done | exact rfl) | rfl)); (case' nextfa48 => skip))
    (refine' GG.grow_lit (GG.BelL.still) rfl ?wtfa49 ?runfa49 ?putfa49 ?nextfa49; (case wtfa49 => rfl); (case runfa49 => (intro w' hS; (obtain ⟨dn, s, hS⟩ := hS); (have x0 := keep hS.b X0.out); (have x1 := keep hS.b X1.out); (have x2 := keep hS.b X2.out); (have x3 := keep hS.b X3.out); (have xl := World.block_lt_of_cell? _ _ x0); (obtain ⟨hlt, hki⟩ := HI.out); clear hS; go_simp; first | done | exact rfl)); (case putfa49 => (first | (simp only [Act.put, List.setIfInBounds_toArray, List.set_cons_zero, List.set_cons_succ]; first | done | exact rfl) | rfl)); (case' nextfa49 => skip))
    (refine' GG.grow_lit (GG.BelL.still) rfl ?wtfa50 ?runfa50 ?putfa50 ?nextfa50; (case wtfa50 => rfl); (case runfa50 => (intro w' hS; (obtain ⟨dn, s, hS⟩ := hS); (have x0 := keep hS.b X0.out); (have x1 := keep hS.b X1.out); (have x2 := keep hS.b X2.out); (have x3 := keep hS.b X3.out); (have xl := World.block_lt_of_cell? _ _ x0); (obtain ⟨hlt, hki⟩ := HI.out); clear hS; go_simp; first | done | exact rfl)); (case putfa50 => (first | (simp only [Act.put, List.setIfInBounds_toArray, List.set_cons_zero, List.set_cons_succ]; first | done | exact rfl) | rfl)); (case' nextfa50 => skip))
    (refine' GG.grow_lit (GG.BelL.still) rfl ?wtfa51 ?runfa51 ?putfa51 ?nextfa51; (case wtfa51 => rfl); (case runfa51 => (intro w' hS; (obtain ⟨dn, s, hS⟩ := hS); (have x0 := keep hS.b X0.out); (have x1 := keep hS.b X1.out); (have x2 := keep hS.b X2.out); (have x3 := keep hS.b X3.out); (have xl := World.block_lt_of_cell? _ _ x0); (obtain ⟨hlt, hki⟩ := HI.out); clear hS; go_simp; first | done | exact rfl)); (case putfa51 => (first | (simp only [Act.put, List.setIfInBounds_toArray, List.set_cons_zero, List.set_cons_succ]; first | done | exact rfl) | rfl)); (case' nextfa51 => skip))
    (refine' GG.grow_lit (GG.BelL.still) rfl ?wtfa52 ?runfa52 ?putfa52 ?nextfa52; (case wtfa52 => rfl); (case runfa52 => (intro w' hS; (obtain ⟨dn, s, hS⟩ := hS); (have x0 := keep hS.b X0.out); (have x1 := keep hS.b X1.out); (have x2 := keep hS.b X2.out); (have x3 := keep hS.b X3.out); (have xl := World.block_lt_of_cell? _ _ x0); (obtain ⟨hlt, hki⟩ := HI.out); clear hS; go_simp; first | done | exact rfl)); (case putfa52 => (first | (simp only [Act.put, List.setIfInBounds_toArray, List.set_cons_zero, List.set_cons_succ]; first | done | exact rfl) | rfl)); (case' nextfa52 => skip))
    intro dn s w5 hS _ _
    have hb := hS.b
    have X0_ := Lib.hid (keep hb X0.out)
    have X1_ := Lib.hid (keep hb X1.out)
    clear hS DS0 X0 X1 X2 X3
    have X0 := X0_
    have X1 := X1_
    clear X0_ X1_
    have HB_ := Lib.hid (bOn6 HB.out hb)
    have HP_ := Lib.hid (HP.out.below hb)
    have HE_ := Lib.hid (HE.out.below hb)
    have HSD_ := Lib.hid (HSD.out.below hb)
    have HS_ := Lib.hid (HS.out.below hb)
    have HBX_ := Lib.hid (bOn6 HBX.out hb)
    have XB_ := Lib.hid (XB.out.below hb)
    clear HB HP HE HSD HS HBX XB
    have HB := HB_
    have HP := HP_
    have HE := HE_
    have HSD := HSD_
    have HS := HS_
    have HBX := HBX_
    have XB := XB_
    clear HB_ HP_ HE_ HSD_ HS_ HBX_ XB_
    clear hb
    go_wp2_with fail
    refine (rorder_is (d := (D : Int)) HP.out HSM.out (by rw [HN.out]; have := HNB.out; omega)).mono ?_
    rintro e w6 ⟨oq, oc, o, rfl, ho, hz, hb⟩
    rw [HN.out] at hz ⊢
    have HO := Lib.hid ho
    have HON : Hid (o.length = N) := Lib.hid (by rw [ho.len, HN.out])
    have HZ := Lib.hid hz
    clear ho hz
    have X0_ := Lib.hid (keep hb X0.out)
    have X1_ := Lib.hid (keep hb X1.out)
    clear X0 X1
    have X0 := X0_
    have X1 := X1_
    clear X0_ X1_
    have HB_ := Lib.hid (bOn6 HB.out hb)
    have HP_ := Lib.hid (HP.out.below hb)
    have HE_ := Lib.hid (HE.out.below hb)
    have HSD_ := Lib.hid (HSD.out.below hb)
    have HS_ := Lib.hid (HS.out.below hb)
    have HBX_ := Lib.hid (bOn6 HBX.out hb)
    have XB_ := Lib.hid (XB.out.below hb)
    clear HB HP HE HSD HS HBX XB
    have HB := HB_
    have HP := HP_
    have HE := HE_
    have HSD := HSD_
    have HS := HS_
    have HBX := HBX_
    have XB := XB_
    clear HB_ HP_ HE_ HSD_ HS_ HBX_ XB_
    clear hb
    go_wp2_with fail
    refine (rends_is HZ.out (by rw [zN_len, HON.out]; have := HNB.out; omega)).mono ?_
    rintro e w7 ⟨aq, ac2, bq, bc, rfl, ha, hbb, hb⟩
    obtain ⟨M, hM⟩ : ∃ M, endN (zN o).length = M := ⟨_, rfl⟩
    rw [zN_src] at ha
    rw [zN_dst] at hbb
    have HM : Hid ((srcL o).length = M ∧ (dstL o).length = M ∧ M ≤ N) := Lib.hid (by
      have h1 := endN_le o.length
      have h2 := HON.out
      rw [zN_len] at hM
      unfold srcL dstL
      rw [List.length_take, List.length_drop]
      omega)
    rw [hM] at ha hbb ⊢
    have HA := Lib.hid ha
    have HBB := Lib.hid hbb
    clear ha hbb hM HZ
    have X0_ := Lib.hid (keep hb X0.out)
    have X1_ := Lib.hid (keep hb X1.out)
    clear X0 X1
    have X0 := X0_
    have X1 := X1_
    clear X0_ X1_
    have HB_ := Lib.hid (bOn6 HB.out hb)
    have HP_ := Lib.hid (HP.out.below hb)
    have HE_ := Lib.hid (HE.out.below hb)
    have HSD_ := Lib.hid (HSD.out.below hb)
    have HS_ := Lib.hid (HS.out.below hb)
    have HBX_ := Lib.hid (bOn6 HBX.out hb)
    have XB_ := Lib.hid (XB.out.below hb)
    clear HB HP HE HSD HS HBX XB
    have HB := HB_
    have HP := HP_
    have HE := HE_
    have HSD := HSD_
    have HS := HS_
    have HBX := HBX_
    have XB := XB_
    clear HB_ HP_ HE_ HSD_ HS_ HBX_ XB_
    clear hb
    obtain ⟨y9, hy9⟩ := named (w7.alloc (.cells #[] 4))
    have hbx : Below w7.heap.size w7 y9 := by rw [hy9]; exact below_alloc1 _
    obtain ⟨gy, hgy⟩ : ∃ g, w7.heap.size = g := ⟨_, rfl⟩
    have ky : Blk y9 gy #[] 4 := by rw [hy9]; exact Blk.new _ _ _ _ hgy
    obtain ⟨gi, ic, w9, hr9, hic, hle, hle2, hgi, hb9⟩ := copyBO y9 _ S (HSD.out.below hbx) (by have := HSL.out; have := HNB.out; omega) gy w7.heap.size ky (by omega)
    rw [HSL.out] at hr9 hle
    have HR9 := Lib.hid hr9
    have HIC := Lib.hid hic
    have HGI := Lib.hid hgi
    have HLE := Lib.hid (And.intro hle hle2)
    have HB79 := Lib.hid (bOn6 hbx hb9)
    have e9 := hy9.symm
    clear hy9 hbx ky hr9 hic hle hle2 hgi hb9
    go_wp2_with (at_builtin; refine wpList_append_run (by rfl) _ _ _ rfl _ _ _ rfl rfl HR9.out ?_)
    clear e9 hgy
    go_loopw [13] (fun kv wr => PutFRel w7 gi S (srcL o) (dstL o) kv wr) (fun kv _ => M - (intOf kv).toNat)
    case atStart => exact ⟨0, Nat.zero_le _, rfl, HIC.out, HB79.out⟩
    case round =>
      obtain ⟨j, hj, rfl, hin, hbj⟩ := hrel
      rw [HM.out.1] at hj
      have HIN := Lib.hid hin
      have HBJ := Lib.hid hbj
      have hMi : (M : Int) ≤ 24 := by have := HM.out; have := HNB.out; omega
      have hMN : (N : Int) ≤ (ic : Int) := by have := HLE.out; omega
      clear hin hbj
      by_cases hjm : j < M
      case pos =>
        have hji : (j : Int) < (M : Int) := by omega
        have hsa : j < (srcL o).length := by rw [HM.out.1]; exact hjm
        have hsb : j < (dstL o).length := by rw [HM.out.2.1]; exact hjm
        obtain ⟨ab1, ao1, rfl, ca⟩ := (HA.out.below HBJ.out).at (k := j) (by rw [zN_len]; exact hsa)
        obtain ⟨bb1, bo1, rfl, cb⟩ := (HBB.out.below HBJ.out).at (k := j) (by rw [zN_len]; exact hsb)
        obtain ⟨u, hu⟩ : ∃ u, (srcL o)[j] = u := ⟨_, rfl⟩
        obtain ⟨v, hv⟩ : ∃ v, (dstL o)[j] = v := ⟨_, rfl⟩
        rw [show (zN (srcL o))[j]'(by rw [zN_len]; exact hsa) = (u : Int) from by simp [zN, hu]] at ca
        rw [show (zN (dstL o))[j]'(by rw [zN_len]; exact hsb) = (v : Int) from by simp [zN, hv]] at cb
        have huN : u < N := by have := HO.out.src_lt (List.getElem_mem hsa); rw [hu, HN.out] at this; exact this
        have hvN : v < N := by have := HO.out.dst_lt (List.getElem_mem hsb); rw [hv, HN.out] at this; exact this
        have hui : (u : Int) < (N : Int) := by omega
        have hvi : (v : Int) < (N : Int) := by omega
        have hal := World.block_lt_of_cell? _ _ ca
        have hbl := World.block_lt_of_cell? _ _ cb
        have hil : (inS S (srcL o) (dstL o) j).length = N := by rw [inS_len, HSL.out]
        have i0 := HIN.out.cell (i := u) (by rw [hil]; exact huN)
        have i1 := HIN.out.free u
        have il := HIN.out.lt
        have hs1 := HIN.out.set u true
        obtain ⟨wa, hwa⟩ := named (wr.setCell ⟨gi, u, none⟩ (.bool true))
        have hba : Below w7.heap.size w7 wa := by rw [hwa]; exact HBJ.out.setCell HGI.out _
        rw [← hwa] at hs1
        have j0 := hs1.cell (i := v) (by rw [List.length_set, hil]; exact hvN)
        have j1 := hs1.free v
        have jl := hs1.lt
        have cb2 := (HBB.out.below hba).at (k := j) (by rw [zN_len]; exact hsb)
        obtain ⟨bb2, bo2, eb2, cb2⟩ := cb2
        injection eb2 with eb2
        injection eb2 with eb2 eb3
        subst eb2 eb3
        rw [show (zN (dstL o))[j]'(by rw [zN_len]; exact hsb) = (v : Int) from by simp [zN, hv]] at cb2
        have hbl2 := World.block_lt_of_cell? _ _ cb2
        have hs2 := hs1.set v false
        obtain ⟨wb, hwb⟩ := named (wa.setCell ⟨gi, v, none⟩ (.bool false))
        have hbb2 : Below w7.heap.size w7 wb := by rw [hwb]; exact hba.setCell HGI.out _
        rw [← hwb] at hs2
        have HNX : Hid (InC wb gi (inS S (srcL o) (dstL o) (j + 1))) := Lib.hid (by
          have ea : (srcL o).getD j 0 = u := by rw [List.getD_eq_getElem?_getD, List.getElem?_eq_getElem hsa, ← hu]; rfl
          have eb : (dstL o).getD j 0 = v := by rw [List.getD_eq_getElem?_getD, List.getElem?_eq_getElem hsb, ← hv]; rfl
          rw [inS, ea, eb]
          exact hs2)
        have HBN := Lib.hid hbb2
        have ea := hwa.symm
        have eb := hwb.symm
        have HJM := Lib.hid hsa
        clear hsa hsb hu hv hil hs1 hs2 hwa hwb hba hbb2 huN hvN cb hbl
        generalize setB (inS S (srcL o) (dstL o) j) u = Z1 at i0
        generalize setB ((inS S (srcL o) (dstL o) j).set u true) v = Z2 at j0
        go_wp2_with fail
        clear ea eb
        go_roundw
        case rel => exact ⟨j + 1, HJM.out, by go_num, HNX.out, HBN.out⟩
        case measure => simp [intOf]; omega
      obtain rfl : j = M := by omega
      obtain ⟨B2, hB2⟩ : ∃ B2, inS S (srcL o) (dstL o) j = B2 := ⟨_, rfl⟩
      have HLOW : Hid (K < 2 → XC ≤ crossS (setB B2) E) := Lib.hid (fun hk2 => by
        have h1 := HX.out
        rw [HDK.out.1] at h1
        have := fair_low HQ.out HDK.out.2.2 hk2 h1 HO.out (by rw [HSL.out, HN.out] : S.length = l.length)
        rw [HM.out.1, hB2] at this
        exact this)
      rw [hB2] at HIN
      have HBL : Hid (B2.length = N) := Lib.hid (by rw [← hB2, inS_len, HSL.out])
      have hbin := HIN.out.bools (c := ic) (by rw [HBL.out]; exact HLE.out.1) HLE.out.2
      rw [HBL.out] at hbin
      have HBIN := Lib.hid hbin
      have hb := HBJ.out
      clear hB2 hbin
      clear HA HBB
      have X0_ := Lib.hid (keep hb X0.out)
      have X1_ := Lib.hid (keep hb X1.out)
      clear X0 X1
      have X0 := X0_
      have X1 := X1_
      clear X0_ X1_
      have HB_ := Lib.hid (bOn6 HB.out hb)
      have HP_ := Lib.hid (HP.out.below hb)
      have HE_ := Lib.hid (HE.out.below hb)
      have HSD_ := Lib.hid (HSD.out.below hb)
      have HS_ := Lib.hid (HS.out.below hb)
      have HBX_ := Lib.hid (bOn6 HBX.out hb)
      have XB_ := Lib.hid (XB.out.below hb)
      clear HB HP HE HSD HS HBX XB
      have HB := HB_
      have HP := HP_
      have HE := HE_
      have HSD := HSD_
      have HS := HS_
      have HBX := HBX_
      have XB := XB_
      clear HB_ HP_ HE_ HSD_ HS_ HBX_ XB_
      clear hb HBJ HIN
      obtain ⟨C2, hC2⟩ : ∃ C2, crossS (setB B2) E = C2 := ⟨_, rfl⟩
      have HC2 := Lib.hid hC2
      have hlow := HLOW.out
      rw [hC2] at hlow
      have HLW := Lib.hid hlow
      have HK3 := Lib.hid HDK.out.2.1
      have DS0 : Hid (GG.BelL wr (fun _ => false) () wr.drew) := Lib.hid ⟨(Below.refl _ _).drew⟩
      clear hC2 hlow HLOW hjm hj hMi hMN
      have hlt12 := HI.out.2
      by_cases hK2 : K < 2
      case neg =>
        obtain rfl : K = 2 := by have := HK3.out; omega
        have hnk : ¬ ((2 : Nat) : Int) < 2 := by omega
        go_wp2_with fail
        refine' GG.wp_growL _ (GG.BelL wr) [[], [0], [0, 1], [0, 1, 2], [0, 1, 2, 3], [0, 1, 2, 3], [0, 1, 2, 3, 4, 5], [0, 1, 2, 3], [0, 1, 2, 3], [0, 1, 2, 3, 7, 8], [0, 1, 2, 3, 7, 8, 9], [0, 1, 2, 3, 7, 8, 9, 10], [0, 1, 2, 3, 4, 5, 6, 7, 8, 9, 10, 11], [0, 1, 2, 3, 4, 5, 6, 7, 8, 9, 10, 11, 12]] (GG.Fact.lit (Rl := GG.RlL) _ :: GG.Fact.lit (Rl := GG.RlL) _ :: GG.Fact.lit (Rl := GG.RlL) _ :: GG.Fact.lit (Rl := GG.RlL) _ :: GG.Fact.lit (Rl := GG.RlL) _ :: GG.Fact.lit (Rl := GG.RlL) _ :: GG.Fact.lit (Rl := GG.RlL) _ :: GG.Fact.lit (Rl := GG.RlL) _ :: GG.Fact.lit (Rl := GG.RlL) _ :: GG.Fact.lit (Rl := GG.RlL) _ :: GG.Fact.lit (Rl := GG.RlL) _ :: GG.Fact.lit (Rl := GG.RlL) _ :: GG.Fact.lit (Rl := GG.RlL) _ :: GG.Fact.lit (Rl := GG.RlL) _ :: []) (by kernel_rfl) rfl (by kernel_rfl) (()) (DS0.out) ?seqfb
        case' seqfb => skip
        (refine' GG.grow_lit (GG.BelL.still) rfl ?wtfb0 ?runfb0 ?putfb0 ?nextfb0; (case wtfb0 => rfl); (case runfb0 => (intro w' hS; (obtain ⟨dn, s, hS⟩ := hS); (have x1 := keep hS.b X1.out); (have xl := World.block_lt_of_cell? _ _ x1); (obtain ⟨hlt, hki⟩ := HI.out); clear hS; go_simp; first | done | exact rfl)); (case putfb0 => (first | (simp only [Act.put, List.setIfInBounds_toArray, List.set_cons_zero, List.set_cons_succ]; first | done | exact rfl) | rfl)); (case' nextfb0 => skip))
        (refine' GG.grow_lit (GG.BelL.still) rfl ?wtfb1 ?runfb1 ?putfb1 ?nextfb1; (case wtfb1 => rfl); (case runfb1 => (intro w' hS; (obtain ⟨dn, s, hS⟩ := hS); (have x1 := keep hS.b X1.out); (have xl := World.block_lt_of_cell? _ _ x1); (obtain ⟨hlt, hki⟩ := HI.out); clear hS; go_simp; first | done | exact rfl)); (case putfb1 => (first | (simp only [Act.put, List.setIfInBounds_toArray, List.set_cons_zero, List.set_cons_succ]; first | done | exact rfl) | rfl)); (case' nextfb1 => skip))
        (refine' GG.grow_lit (GG.BelL.still) rfl ?wtfb2 ?runfb2 ?putfb2 ?nextfb2; (case wtfb2 => rfl); (case runfb2 => (intro w' hS; (obtain ⟨dn, s, hS⟩ := hS); (have x1 := keep hS.b X1.out); (have xl := World.block_lt_of_cell? _ _ x1); (obtain ⟨hlt, hki⟩ := HI.out); clear hS; go_simp; first | done | exact rfl)); (case putfb2 => (first | (simp only [Act.put, List.setIfInBounds_toArray, List.set_cons_zero, List.set_cons_succ]; first | done | exact rfl) | rfl)); (case' nextfb2 => skip))
        (refine' GG.grow_lit (GG.BelL.still) rfl ?wtfb3 ?runfb3 ?putfb3 ?nextfb3; (case wtfb3 => rfl); (case runfb3 => (intro w' hS; (obtain ⟨dn, s, hS⟩ := hS); (have x1 := keep hS.b X1.out); (have xl := World.block_lt_of_cell? _ _ x1); (obtain ⟨hlt, hki⟩ := HI.out); clear hS; go_simp; first | done | exact rfl)); (case putfb3 => (first | (simp only [Act.put, List.setIfInBounds_toArray, List.set_cons_zero, List.set_cons_succ]; first | done | exact rfl) | rfl)); (case' nextfb3 => skip))
        (refine' GG.grow_skip (GG.BelL.still) rfl ?wtfb4 ?putfb4 ?nextfb4; (case wtfb4 => rfl); (case putfb4 => (first | (simp only [Act.put, List.setIfInBounds_toArray, List.set_cons_zero, List.set_cons_succ]; first | done | exact rfl) | rfl)); (case' nextfb4 => skip))
        (refine' GG.grow_skip (GG.BelL.still) rfl ?wtfb5 ?putfb5 ?nextfb5; (case wtfb5 => rfl); (case putfb5 => (first | (simp only [Act.put, List.setIfInBounds_toArray, List.set_cons_zero, List.set_cons_succ]; first | done | exact rfl) | rfl)); (case' nextfb5 => skip))
        (refine' GG.grow_skip (GG.BelL.still) rfl ?wtfb6 ?putfb6 ?nextfb6; (case wtfb6 => rfl); (case putfb6 => (first | (simp only [Act.put, List.setIfInBounds_toArray, List.set_cons_zero, List.set_cons_succ]; first | done | exact rfl) | rfl)); (case' nextfb6 => skip))
        (refine' GG.grow_skip (GG.BelL.still) rfl ?wtfb7 ?putfb7 ?nextfb7; (case wtfb7 => rfl); (case putfb7 => (first | (simp only [Act.put, List.setIfInBounds_toArray, List.set_cons_zero, List.set_cons_succ]; first | done | exact rfl) | rfl)); (case' nextfb7 => skip))
        (refine' GG.grow_skip (GG.BelL.still) rfl ?wtfb8 ?putfb8 ?nextfb8; (case wtfb8 => rfl); (case putfb8 => (first | (simp only [Act.put, List.setIfInBounds_toArray, List.set_cons_zero, List.set_cons_succ]; first | done | exact rfl) | rfl)); (case' nextfb8 => skip))
        (refine' GG.grow_skip (GG.BelL.still) rfl ?wtfb9 ?putfb9 ?nextfb9; (case wtfb9 => rfl); (case putfb9 => (first | (simp only [Act.put, List.setIfInBounds_toArray, List.set_cons_zero, List.set_cons_succ]; first | done | exact rfl) | rfl)); (case' nextfb9 => skip))
        (refine' GG.grow_skip (GG.BelL.still) rfl ?wtfb10 ?putfb10 ?nextfb10; (case wtfb10 => rfl); (case putfb10 => (first | (simp only [Act.put, List.setIfInBounds_toArray, List.set_cons_zero, List.set_cons_succ]; first | done | exact rfl) | rfl)); (case' nextfb10 => skip))
        (refine' GG.grow_skip (GG.BelL.still) rfl ?wtfb11 ?putfb11 ?nextfb11; (case wtfb11 => rfl); (case putfb11 => (first | (simp only [Act.put, List.setIfInBounds_toArray, List.set_cons_zero, List.set_cons_succ]; first | done | exact rfl) | rfl)); (case' nextfb11 => skip))
        (refine' GG.grow_skip (GG.BelL.still) rfl ?wtfb12 ?putfb12 ?nextfb12; (case wtfb12 => rfl); (case putfb12 => (first | (simp only [Act.put, List.setIfInBounds_toArray, List.set_cons_zero, List.set_cons_succ]; first | done | exact rfl) | rfl)); (case' nextfb12 => skip))
        (refine' GG.grow_lit (GG.BelL.still) rfl ?wtfb13 ?runfb13 ?putfb13 ?nextfb13; (case wtfb13 => rfl); (case runfb13 => (intro w' hS; (obtain ⟨dn, s, hS⟩ := hS); (have x1 := keep hS.b X1.out); (have xl := World.block_lt_of_cell? _ _ x1); (obtain ⟨hlt, hki⟩ := HI.out); clear hS; go_simp; first | done | exact rfl)); (case putfb13 => (first | (simp only [Act.put, List.setIfInBounds_toArray, List.set_cons_zero, List.set_cons_succ]; first | done | exact rfl) | rfl)); (case' nextfb13 => skip))
        intro dn s w10 hS _ _
        have hb := hS.b
        clear hS DS0
        have X0_ := Lib.hid (keep hb X0.out)
        have X1_ := Lib.hid (keep hb X1.out)
        clear X0 X1
        have X0 := X0_
        have X1 := X1_
        clear X0_ X1_
        have HB_ := Lib.hid (bOn6 HB.out hb)
        have HP_ := Lib.hid (HP.out.below hb)
        have HE_ := Lib.hid (HE.out.below hb)
        have HSD_ := Lib.hid (HSD.out.below hb)
        have HS_ := Lib.hid (HS.out.below hb)
        have HBX_ := Lib.hid (bOn6 HBX.out hb)
        have XB_ := Lib.hid (XB.out.below hb)
        have HBIN_ := Lib.hid (HBIN.out.below hb)
        clear HB HP HE HSD HS HBX XB HBIN
        have HB := HB_
        have HP := HP_
        have HE := HE_
        have HSD := HSD_
        have HS := HS_
        have HBX := HBX_
        have XB := XB_
        have HBIN := HBIN_
        clear HB_ HP_ HE_ HSD_ HS_ HBX_ XB_ HBIN_
        clear hb
        obtain ⟨y, hy⟩ : ∃ y, L[3 * D + 1]? = some y := ⟨_, List.getElem?_eq_getElem (by rw [HQ.out.len]; have := HDK.out; omega)⟩
        obtain ⟨z, hz⟩ : ∃ z, L[3 * D]? = some z := ⟨_, List.getElem?_eq_getElem (by rw [HQ.out.len]; have := HDK.out; omega)⟩
        have hx9 := HX.out
        rw [HDK.out.1] at hx9
        have hcc := (ways_cross HQ.out HDK.out.2.2 hz hy hx9).2
        obtain ⟨yv, yb, y0, y1, y2, y3, yl⟩ := HS.out.at4 hy
        obtain ⟨YC, hYC⟩ : ∃ YC, y.cross = YC := ⟨_, rfl⟩
        rw [hYC] at y1 hcc
        simp only at hcc
        obtain ⟨P, hP⟩ : ∃ P, 3 * D + 1 = P := ⟨_, rfl⟩
        have hPi : i = P + 1 := by have := HDK.out; omega
        rw [hP] at y1
        have hsub : IntKind.i64.wrap ((i : Int) - 1) = (P : Int) := by
          rw [show (i : Int) - 1 = (P : Int) from by omega]
          exact IntWalk.i64_in _ (by omega)
        have hP12 : (P : Int) < 12 := by omega
        have hwi : IntKind.i64.wrap ((i : Int) + 1) = (i : Int) + 1 := IntWalk.i64_in _ (by omega)
        have x1 := X1.out
        have xl := World.block_lt_of_cell? _ _ x1
        have dlt : decide (XC < YC) = false := decide_eq_false (by omega)
        have hnl : ¬ XC < YC := by omega
        have hP0 : 0 ≤ (P : Int) := by omega
        clear hy hz hx9 yb y0 y2 y3 hYC hP hPi
        go_wp2_with fail
        go_quiet (fail)
        go_wp2_with fail
        go_roundw
        case rel => exact ⟨i + 1, HI.out.1, by go_num, below_drewN HBX.out _⟩
        case measure => have := HI.out.1; simp [intOf]; omega
      have hlw := HLW.out hK2
      have dlw : decide (C2 < XC) = false := decide_eq_false (by omega)
      have hnlw : ¬ C2 < XC := by omega
      have hki2 : (K : Int) < 2 := by omega
      go_wp2_with fail
      refine' GG.wp_growL _ (GG.BelL wr) [[], [0], [0, 1], [0, 1, 2], [0, 1, 2, 3], [0, 1, 2, 3], [0, 1, 2, 3, 4, 5], [0, 1, 2, 3], [0, 1, 2, 3], [0, 1, 2, 3, 7, 8], [0, 1, 2, 3, 7, 8, 9], [0, 1, 2, 3, 7, 8, 9, 10], [0, 1, 2, 3, 4, 5, 6, 7, 8, 9, 10, 11], [0, 1, 2, 3, 4, 5, 6, 7, 8, 9, 10, 11, 12]] (GG.Fact.lit (Rl := GG.RlL) _ :: GG.Fact.lit (Rl := GG.RlL) _ :: GG.Fact.lit (Rl := GG.RlL) _ :: GG.Fact.lit (Rl := GG.RlL) _ :: GG.Fact.lit (Rl := GG.RlL) _ :: GG.Fact.lit (Rl := GG.RlL) _ :: GG.Fact.lit (Rl := GG.RlL) _ :: GG.Fact.lit (Rl := GG.RlL) _ :: GG.Fact.lit (Rl := GG.RlL) _ :: GG.Fact.lit (Rl := GG.RlL) _ :: GG.Fact.lit (Rl := GG.RlL) _ :: GG.Fact.lit (Rl := GG.RlL) _ :: GG.Fact.lit (Rl := GG.RlL) _ :: GG.Fact.lit (Rl := GG.RlL) _ :: []) (by kernel_rfl) rfl (by kernel_rfl) (()) (DS0.out) ?seqfc
      case' seqfc => skip
      (refine' GG.grow_lit (GG.BelL.still) rfl ?wtfc0 ?runfc0 ?putfc0 ?nextfc0; (case wtfc0 => rfl); (case runfc0 => (intro w' hS; (obtain ⟨dn, s, hS⟩ := hS); (have x1 := keep hS.b X1.out); (have xl := World.block_lt_of_cell? _ _ x1); (obtain ⟨hlt, hki⟩ := HI.out); clear hS; go_simp; first | done | exact rfl)); (case putfc0 => (first | (simp only [Act.put, List.setIfInBounds_toArray, List.set_cons_zero, List.set_cons_succ]; first | done | exact rfl) | rfl)); (case' nextfc0 => skip))
      (refine' GG.grow_lit (GG.BelL.still) rfl ?wtfc1 ?runfc1 ?putfc1 ?nextfc1; (case wtfc1 => rfl); (case runfc1 => (intro w' hS; (obtain ⟨dn, s, hS⟩ := hS); (have x1 := keep hS.b X1.out); (have xl := World.block_lt_of_cell? _ _ x1); (obtain ⟨hlt, hki⟩ := HI.out); clear hS; go_simp; first | done | exact rfl)); (case putfc1 => (first | (simp only [Act.put, List.setIfInBounds_toArray, List.set_cons_zero, List.set_cons_succ]; first | done | exact rfl) | rfl)); (case' nextfc1 => skip))
      (refine' GG.grow_lit (GG.BelL.still) rfl ?wtfc2 ?runfc2 ?putfc2 ?nextfc2; (case wtfc2 => rfl); (case runfc2 => (intro w' hS; (obtain ⟨dn, s, hS⟩ := hS); (have x1 := keep hS.b X1.out); (have xl := World.block_lt_of_cell? _ _ x1); (obtain ⟨hlt, hki⟩ := HI.out); clear hS; go_simp; first | done | exact rfl)); (case putfc2 => (first | (simp only [Act.put, List.setIfInBounds_toArray, List.set_cons_zero, List.set_cons_succ]; first | done | exact rfl) | rfl)); (case' nextfc2 => skip))
      (refine' GG.grow_lit (GG.BelL.still) rfl ?wtfc3 ?runfc3 ?putfc3 ?nextfc3; (case wtfc3 => rfl); (case runfc3 => (intro w' hS; (obtain ⟨dn, s, hS⟩ := hS); (have x1 := keep hS.b X1.out); (have xl := World.block_lt_of_cell? _ _ x1); (obtain ⟨hlt, hki⟩ := HI.out); clear hS; go_simp; first | done | exact rfl)); (case putfc3 => (first | (simp only [Act.put, List.setIfInBounds_toArray, List.set_cons_zero, List.set_cons_succ]; first | done | exact rfl) | rfl)); (case' nextfc3 => skip))
      (refine' GG.grow_lit (GG.BelL.still) rfl ?wtfc4 ?runfc4 ?putfc4 ?nextfc4; (case wtfc4 => rfl); (case runfc4 => (intro w' hS; (obtain ⟨dn, s, hS⟩ := hS); (have x1 := keep hS.b X1.out); (have xl := World.block_lt_of_cell? _ _ x1); (obtain ⟨hlt, hki⟩ := HI.out); clear hS; go_simp; first | done | exact rfl)); (case putfc4 => (first | (simp only [Act.put, List.setIfInBounds_toArray, List.set_cons_zero, List.set_cons_succ]; first | done | exact rfl) | rfl)); (case' nextfc4 => skip))
      (refine' GG.grow_lit (GG.BelL.still) rfl ?wtfc5 ?runfc5 ?putfc5 ?nextfc5; (case wtfc5 => rfl); (case runfc5 => (intro w' hS; (obtain ⟨dn, s, hS⟩ := hS); (have x1 := keep hS.b X1.out); (have xl := World.block_lt_of_cell? _ _ x1); (obtain ⟨hlt, hki⟩ := HI.out); clear hS; go_simp; first | done | exact rfl)); (case putfc5 => (first | (simp only [Act.put, List.setIfInBounds_toArray, List.set_cons_zero, List.set_cons_succ]; first | done | exact rfl) | rfl)); (case' nextfc5 => skip))
      (refine' GG.grow_lit_call (u := .int .i64 C2) rfl Tryz.func12 (by kernel_rfl) rfl rfl ?wtfc6 ?runfc6 ?putfc6 ?nextfc6; (case wtfc6 => rfl); (case runfc6 => (intro dn s w' hS hd H; exact (cross_is (HBIN.out.below hS.b) (HE.out.below hS.b) (by have := HNB.out; omega) HC2.out).mono (fun e w2 h => ⟨(), h.1, ⟨hS.b.trans (h.2.mono hS.b.size)⟩, h.2, h.2.size⟩))); (case putfc6 => (first | (simp only [Act.put, List.setIfInBounds_toArray, List.set_cons_zero, List.set_cons_succ]; first | done | exact rfl) | rfl)); (case' nextfc6 => skip))
      (refine' GG.grow_lit (GG.BelL.still) rfl ?wtfc7 ?runfc7 ?putfc7 ?nextfc7; (case wtfc7 => rfl); (case runfc7 => (intro w' hS; (obtain ⟨dn, s, hS⟩ := hS); (have x1 := keep hS.b X1.out); (have xl := World.block_lt_of_cell? _ _ x1); (obtain ⟨hlt, hki⟩ := HI.out); clear hS; go_simp; first | done | exact rfl)); (case putfc7 => (first | (simp only [Act.put, List.setIfInBounds_toArray, List.set_cons_zero, List.set_cons_succ]; first | done | exact rfl) | rfl)); (case' nextfc7 => skip))
      (refine' GG.grow_lit (GG.BelL.still) rfl ?wtfc8 ?runfc8 ?putfc8 ?nextfc8; (case wtfc8 => rfl); (case runfc8 => (intro w' hS; (obtain ⟨dn, s, hS⟩ := hS); (have x1 := keep hS.b X1.out); (have xl := World.block_lt_of_cell? _ _ x1); (obtain ⟨hlt, hki⟩ := HI.out); clear hS; go_simp; first | done | exact rfl)); (case putfc8 => (first | (simp only [Act.put, List.setIfInBounds_toArray, List.set_cons_zero, List.set_cons_succ]; first | done | exact rfl) | rfl)); (case' nextfc8 => skip))
      (refine' GG.grow_lit (GG.BelL.still) rfl ?wtfc9 ?runfc9 ?putfc9 ?nextfc9; (case wtfc9 => rfl); (case runfc9 => (intro w' hS; (obtain ⟨dn, s, hS⟩ := hS); (have x1 := keep hS.b X1.out); (have xl := World.block_lt_of_cell? _ _ x1); (obtain ⟨hlt, hki⟩ := HI.out); clear hS; go_simp; first | done | exact rfl)); (case putfc9 => (first | (simp only [Act.put, List.setIfInBounds_toArray, List.set_cons_zero, List.set_cons_succ]; first | done | exact rfl) | rfl)); (case' nextfc9 => skip))
      (refine' GG.grow_lit (GG.BelL.still) rfl ?wtfc10 ?runfc10 ?putfc10 ?nextfc10; (case wtfc10 => rfl); (case runfc10 => (intro w' hS; (obtain ⟨dn, s, hS⟩ := hS); (have x1 := keep hS.b X1.out); (have xl := World.block_lt_of_cell? _ _ x1); (obtain ⟨hlt, hki⟩ := HI.out); clear hS; go_simp; first | done | exact rfl)); (case putfc10 => (first | (simp only [Act.put, List.setIfInBounds_toArray, List.set_cons_zero, List.set_cons_succ]; first | done | exact rfl) | rfl)); (case' nextfc10 => skip))
      (refine' GG.grow_lit (GG.BelL.still) rfl ?wtfc11 ?runfc11 ?putfc11 ?nextfc11; (case wtfc11 => rfl); (case runfc11 => (intro w' hS; (obtain ⟨dn, s, hS⟩ := hS); (have x1 := keep hS.b X1.out); (have xl := World.block_lt_of_cell? _ _ x1); (obtain ⟨hlt, hki⟩ := HI.out); clear hS; go_simp; first | done | exact rfl)); (case putfc11 => (first | (simp only [Act.put, List.setIfInBounds_toArray, List.set_cons_zero, List.set_cons_succ]; first | done | exact rfl) | rfl)); (case' nextfc11 => skip))
      (refine' GG.grow_lit (GG.BelL.still) rfl ?wtfc12 ?runfc12 ?putfc12 ?nextfc12; (case wtfc12 => rfl); (case runfc12 => (intro w' hS; (obtain ⟨dn, s, hS⟩ := hS); (have x1 := keep hS.b X1.out); (have xl := World.block_lt_of_cell? _ _ x1); (obtain ⟨hlt, hki⟩ := HI.out); clear hS; go_simp; first | done | exact rfl)); (case putfc12 => (first | (simp only [Act.put, List.setIfInBounds_toArray, List.set_cons_zero, List.set_cons_succ]; first | done | exact rfl) | rfl)); (case' nextfc12 => skip))
      (refine' GG.grow_lit (GG.BelL.still) rfl ?wtfc13 ?runfc13 ?putfc13 ?nextfc13; (case wtfc13 => rfl); (case runfc13 => (intro w' hS; (obtain ⟨dn, s, hS⟩ := hS); (have x1 := keep hS.b X1.out); (have xl := World.block_lt_of_cell? _ _ x1); (obtain ⟨hlt, hki⟩ := HI.out); clear hS; go_simp; first | done | exact rfl)); (case putfc13 => (first | (simp only [Act.put, List.setIfInBounds_toArray, List.set_cons_zero, List.set_cons_succ]; first | done | exact rfl) | rfl)); (case' nextfc13 => skip))
      intro dn s w10 hS _ _
      have hb := hS.b
      clear hS DS0
      have X0_ := Lib.hid (keep hb X0.out)
      have X1_ := Lib.hid (keep hb X1.out)
      clear X0 X1
      have X0 := X0_
      have X1 := X1_
      clear X0_ X1_
      have HB_ := Lib.hid (bOn6 HB.out hb)
      have HP_ := Lib.hid (HP.out.below hb)
      have HE_ := Lib.hid (HE.out.below hb)
      have HSD_ := Lib.hid (HSD.out.below hb)
      have HS_ := Lib.hid (HS.out.below hb)
      have HBX_ := Lib.hid (bOn6 HBX.out hb)
      have XB_ := Lib.hid (XB.out.below hb)
      have HBIN_ := Lib.hid (HBIN.out.below hb)
      clear HB HP HE HSD HS HBX XB HBIN
      have HB := HB_
      have HP := HP_
      have HE := HE_
      have HSD := HSD_
      have HS := HS_
      have HBX := HBX_
      have XB := XB_
      have HBIN := HBIN_
      clear HB_ HP_ HE_ HSD_ HS_ HBX_ XB_ HBIN_
      clear hb
      have hwi : IntKind.i64.wrap ((i : Int) + 1) = (i : Int) + 1 := IntWalk.i64_in _ (by omega)
      clear dlw hnlw hki2 hlw
      by_cases hK1 : K = 1
      case neg =>
        obtain rfl : K = 0 := by omega
        go_wp2_with fail
        go_quiet (fail)
        go_wp2_with fail
        go_roundw
        case rel => exact ⟨i + 1, HI.out.1, by go_num, below_drewN HBX.out _⟩
        case measure => have := HI.out.1; simp [intOf]; omega
      subst hK1
      obtain ⟨y, hy⟩ : ∃ y, L[3 * D]? = some y := ⟨_, List.getElem?_eq_getElem (by rw [HQ.out.len]; have := HDK.out; omega)⟩
      obtain ⟨z, hz⟩ : ∃ z, L[3 * D + 2]? = some z := ⟨_, List.getElem?_eq_getElem (by rw [HQ.out.len]; have := HDK.out; omega)⟩
      have hx9 := HX.out
      rw [HDK.out.1] at hx9
      have hcc := (ways_cross HQ.out HDK.out.2.2 hy hx9 hz).1
      obtain ⟨yv, yb, y0, y1, y2, y3, yl⟩ := HS.out.at4 hy
      obtain ⟨YC, hYC⟩ : ∃ YC, y.cross = YC := ⟨_, rfl⟩
      rw [hYC] at y1 hcc
      simp only at hcc
      subst hcc
      obtain ⟨P, hP⟩ : ∃ P, 3 * D = P := ⟨_, rfl⟩
      have hPi : i = P + 1 := by have := HDK.out; omega
      rw [hP] at y1
      have hsub : IntKind.i64.wrap ((i : Int) - 1) = (P : Int) := by
        rw [show (i : Int) - 1 = (P : Int) from by omega]
        exact IntWalk.i64_in _ (by omega)
      have hP12 : (P : Int) < 12 := by omega
      have x1 := X1.out
      have xl := World.block_lt_of_cell? _ _ x1
      have hP0 : 0 ≤ (P : Int) := by omega
      clear hy hz hx9 yb y0 y2 y3 hYC hP hPi
      go_wp2_with fail
      go_quiet (fail)
      go_wp2_with fail
      go_roundw
      case rel => exact ⟨i + 1, HI.out.1, by go_num, below_drewN HBX.out _⟩
      case measure => have := HI.out.1; simp [intOf]; omega
set_option maxRecDepth 100000 in
theorem cutFair_walks : Walks laidAll 3 Tryz.f3 := by
  intro H enc W args ds g
  obtain ⟨ps, hA⟩ := g.reads
  obtain ⟨base, hval⟩ := g.okay
  rw [Tryz.params3] at hA hval
  obtain ⟨v0, vs0, d0, ds0, p0, q0, hargs, rfl, rfl, h0, r0⟩ := trodAll_cons hA
  obtain ⟨v1, vs1, d1, ds1, p1, q1, rfl, rfl, rfl, h1, r1⟩ := trodAll_cons r0
  obtain ⟨v2, vs2, d2, ds2, p2, q2, rfl, rfl, rfl, h2, r2⟩ := trodAll_cons r1
  obtain ⟨rfl, rfl, rfl⟩ := trodAll_nil r2
  obtain rfl : args = #[v0, v1, v2] := Array.toList_inj.1 hargs
  obtain ⟨x0, w0, u0⟩ := open_edges (hval 0 22 v0 rfl rfl) h0
  obtain ⟨x1, w1, u1⟩ := open_edges (hval 1 22 v1 rfl rfl) h1
  obtain ⟨x2, w2⟩ := open_marks (hval 2 23 v2 rfl rfl) h2
  exact fair_law v0 x0 v1 x1 v2 x2 W (errT_of_laid g.laid) w0 u0 w1 u1 w2

theorem cutFair_row : Rows.CutFairSaid :=
  OpenClaim.holds_of_wide 3 Tryz.f3 rfl rfl rfl rfl rfl rfl rfl ⟨rfl, rfl, rfl, rfl, rfl⟩ rfl rfl rfl rfl rfl (by kernel_rfl) Tryz.func3 (by kernel_rfl)
    (of_decide_eq_true (by kernel_rfl)) (by unfold Func.isWrapper; rw [if_neg (of_decide_eq_false (by kernel_rfl))]; exact ⟨rfl, rfl⟩)
    (fun os started H enc _ => law_lifted (s := Rows.cutFairSpec) (L := laidAll) Tryz.func3 (by kernel_rfl) rfl (by kernel_rfl)
      (fun H ds hl => by
        rw [Tryz.params3] at hl
        match ds, hl with
        | [_, _, _], _ => exact ⟨rfl, rfl, rfl⟩)
      (by kernel_rfl) os started H enc
      (ChangeSpec.witness_at (enc := enc) (C := Tryz.checked) (os := os) (X := fun w _ => laidMetH Tryz.prog laidAll w) false (laidWorld os) #[.slice none 0 0, .slice none 0 0, .slice none 0 0] 8 rfl (by kernel_rfl) (by kernel_rfl) (by kernel_rfl) (by kernel_rfl) (by kernel_rfl) (laidWorld_met os _))
      cutFair_walks)

theorem cutFair_card : Rows.CutFairCardSaid :=
  Claim7.holds_tied_plain_at .later [] laidKindsAll true (Rows.cutFairCard.stood.harness) true
    cutFair_row (fun _ h => by cases h) (by kernel_rfl) (fun _ h => by cases h) cutFair_row_tie rfl ⟨rfl, rfl⟩ (by kernel_rfl) rfl
    (fun f fn hf hfn => by
      obtain rfl : f = 3 := Option.some.inj ((show Tryz.prog.funcNamed "roundsman/roundsmanlaw11.CutFair" = some 3 by kernel_rfl).symm.trans hf) |>.symm
      obtain rfl : fn = Tryz.f3 := (Option.some.inj (Tryz.func3.symm.trans hfn)).symm
      exact ⟨by kernel_rfl, fun j t ht => by
        rw [Tryz.params3] at ht
        exact stand_all #[22, 22, 23] (by kernel_rfl) j t ht⟩)
    (by kernel_rfl)
#print axioms cutFair_card
end Go.Proofs.YthfljimgpcignaaGreatDoor
