/-
  PROVED: a net in bytes of which one byte was turned into another one, or that was cut, is none. For every net, place and byte. Conditions: the listed library variable holds what the program's own text lays (the card ties it).
-/
import Derived.Test.YtjapdbegfanfiaaGreatDoorB18
import Derived.Test.YtjapdbegfanfiaaGreatDoorNetIn
import Derived.Test.YtjapdbegfanfiaaGreatDoorB5
import Derived.Test.YtjapdbegfanfiaaGreatDoorLaid2
import Derived.Test.YtjapdbegfanfiaaGreatDoorCards
import Derived.Test.YtjapdbegfanfiaaGreatDoorTie
import Derived.SevenTiedAt
namespace Go.Proofs.YtjapdbegfanfiaaGreatDoor
open Go.ChangeShapes Go.WideShapes Go.ChangeAt Go.RowKit

/-- One byte of a row of one's own is written. -/
theorem store8 {w : World} {v : Value} {l : List Int} {base : Nat} (h : w.ownsRow base 5 1 v l.length (l.map (Value.int .u8))) (hl : l.length ≤ 1000000) {K : Nat} (hK : K < l.length) (C : Int) :
    ∃ g c, v = .slice (some ⟨g, 0, none⟩) l.length c ∧ base ≤ g ∧ w.cell? ⟨g, K, none⟩ = some (.int .u8 l[K]) ∧ w.frozen? ⟨g, K, none⟩ = false ∧ U8s (w.setCell ⟨g, K, none⟩ (.int .u8 C)) (.slice (some ⟨g, 0, none⟩) l.length c) (l.set K C) := by
  have hcell : ∀ i (hi : i < l.length), (l.map (Value.int .u8))[i]? = some (.int .u8 l[i]) := fun i hi => by simp [hi]
  rcases h.2 with ⟨-, e0⟩ | ⟨g, cap, cur, rfl, hg, hgg, hnc, hcm, hcs, -⟩
  · omega
  · have hblk : Blk w g cur 5 := hgg
    refine ⟨g, cap, rfl, hg, (h.cellAt K (by omega)).trans (hcell K hK), hblk.free K, g, ?_⟩
    have hset := hblk.set K (.int .u8 C)
    have e : (l.set K C).length = l.length := List.length_set
    refine Or.inr ⟨by omega, 0, cap, by omega, by unfold maxLen at hcm; omega, by rw [e], hset.lt, fun i hi => ?_⟩
    rw [Nat.zero_add]
    have hi' : i < l.length := by omega
    have hci : cur[i]? = some (.int .u8 l[i]) := by
      rw [← cell_of_row w g i cur _ (0, 0) hblk, h.cellAt i (by omega)]
      exact hcell i hi'
    refine hset.cell i ?_
    by_cases hik : i = K
    · subst hik
      have hlt : i < cur.size := (Array.getElem?_eq_some_iff.1 hci).1
      simp [hlt]
    · rw [Array.getElem?_setIfInBounds_ne (fun h => hik h.symm), hci, List.getElem_set_ne (fun h => hik h.symm)]

set_option maxHeartbeats 8000000 in
set_option maxRecDepth 100000 in
theorem turned_not (v : Value) (n : NetD) (A C D : Int) (w : World) (hg : ErrT w) (hv : NetV w v n) (hin : InNet n) (hm : mayN n = false) :
    Calls Tryz.prog 5 #[v, .int .u16 A, .int .u8 C, .int .u16 D] w fun e w' => e = .returned (.bool true) ∧ Below w.heap.size w w' := by
  obtain ⟨vq, aq, tq, vc, ac, tc, rfl, -⟩ := hv.shape
  have HIN := Lib.hid hin
  have G_0 := Lib.hid (hg)
  have B_0 := Lib.hid (Below.refl w.heap.size w)
  have V_0 := Lib.hid (hv)
  clear hg hv hin
  go_enter Tryz.func5, Tryz.ntmps5
  obtain ⟨pW0, hpW0⟩ : ∃ p, w.heap.size = p := ⟨_, rfl⟩
  obtain ⟨W0, hW0⟩ := named (w.alloc (.cells #[.slice vq n.v.length vc, .slice aq n.a.length ac, .slice tq n.t.length tc] 37))
  have hb : Below w.heap.size w W0 := by rw [hW0]; exact below_new8 _
  have G_1 := Lib.hid (G_0.out.keep hb)
  have B_1 := Lib.hid (bOn B_0.out hb)
  have V_1 := Lib.hid (V_0.out.below hb)
  have K_1 : Hid (Blk W0 pW0 #[.slice vq n.v.length vc, .slice aq n.a.length ac, .slice tq n.t.length tc] 37) := by rw [hW0]; exact Lib.hid (Blk.new _ _ _ _ (by simp [hpW0]))
  go_upto_region 1 with fail
  rw [← hW0]
  clear hb hW0 hpW0 G_0 B_0 V_0
  go_wp2_with fail
  refine (known5_any _ G_1.out).mono ?_
  rintro ev w1 ⟨rfl, hb⟩
  have G_2 := Lib.hid (G_1.out.keep hb)
  have B_2 := Lib.hid (bOn B_1.out hb)
  have V_2 := Lib.hid (V_1.out.below hb)
  have K_2 := Lib.hid (K_1.out.keep hb)
  clear hb G_1 B_1 V_1 K_1 
  obtain ⟨k0, k1, k2, -, -, -⟩ := K_2.out.o3
  go_wp2_with fail
  refine (vmay V_2.out HIN.out hm).mono ?_
  rintro ev w2 ⟨rfl, hb⟩
  have G_3 := Lib.hid (G_2.out.keep hb)
  have B_3 := Lib.hid (bOn B_2.out hb)
  have V_3 := Lib.hid (V_2.out.below hb)
  have K_3 := Lib.hid (K_2.out.keep hb)
  clear hb G_2 B_2 V_2 K_2 k0 k1 k2
  go_wp2_with fail
  go_ret
  exact ⟨rfl, B_3.out⟩

set_option maxHeartbeats 8000000 in
set_option maxRecDepth 100000 in
theorem turned_err (v : Value) (n : NetD) (A C D : Int) (w : World) (hg : ErrT w) (hv : NetV w v n) (hin : InNet n) (hm : mayN n = true) (he : ¬ (encodeF n).2.2 = 0) :
    Calls Tryz.prog 5 #[v, .int .u16 A, .int .u8 C, .int .u16 D] w fun e w' => e = .returned (.bool true) ∧ Below w.heap.size w w' := by
  obtain ⟨vq, aq, tq, vc, ac, tc, rfl, -⟩ := hv.shape
  have HIN := Lib.hid hin
  obtain ⟨HF1, -, -⟩ := may_of hm
  have HFW := Lib.hid HF1
  have hfl := encode_flt n
  obtain ⟨R, hR⟩ : ∃ R, encodeF n = R := ⟨_, rfl⟩
  rw [hR] at hfl he
  obtain ⟨Rl, Rp, Re⟩ := R
  simp only at hfl he
  have hRb : (Re != 0) = true := by simpa using he
  have HR := Lib.hid hR
  have HFL := Lib.hid hfl
  clear HF1 hR hfl he
  have G_0 := Lib.hid (hg)
  have B_0 := Lib.hid (Below.refl w.heap.size w)
  have V_0 := Lib.hid (hv)
  clear hg hv hin
  go_enter Tryz.func5, Tryz.ntmps5
  obtain ⟨pW0, hpW0⟩ : ∃ p, w.heap.size = p := ⟨_, rfl⟩
  obtain ⟨W0, hW0⟩ := named (w.alloc (.cells #[.slice vq n.v.length vc, .slice aq n.a.length ac, .slice tq n.t.length tc] 37))
  have hb : Below w.heap.size w W0 := by rw [hW0]; exact below_new8 _
  have G_1 := Lib.hid (G_0.out.keep hb)
  have B_1 := Lib.hid (bOn B_0.out hb)
  have V_1 := Lib.hid (V_0.out.below hb)
  have K_1 : Hid (Blk W0 pW0 #[.slice vq n.v.length vc, .slice aq n.a.length ac, .slice tq n.t.length tc] 37) := by rw [hW0]; exact Lib.hid (Blk.new _ _ _ _ (by simp [hpW0]))
  go_upto_region 1 with fail
  rw [← hW0]
  clear hb hW0 hpW0 G_0 B_0 V_0
  go_wp2_with fail
  refine (known5_any _ G_1.out).mono ?_
  rintro ev w1 ⟨rfl, hb⟩
  have G_2 := Lib.hid (G_1.out.keep hb)
  have B_2 := Lib.hid (bOn B_1.out hb)
  have V_2 := Lib.hid (V_1.out.below hb)
  have K_2 := Lib.hid (K_1.out.keep hb)
  clear hb G_1 B_1 V_1 K_1 
  obtain ⟨k0, k1, k2, -, -, -⟩ := K_2.out.o3
  go_wp2_with fail
  refine (vmay V_2.out HIN.out hm).mono ?_
  rintro ev w2 ⟨rfl, hb⟩
  have G_3 := Lib.hid (G_2.out.keep hb)
  have B_3 := Lib.hid (bOn B_2.out hb)
  have V_3 := Lib.hid (V_2.out.below hb)
  have K_3 := Lib.hid (K_2.out.keep hb)
  clear hb G_2 B_2 V_2 K_2 k0 k1 k2
  obtain ⟨k0, k1, k2, -, -, -⟩ := K_3.out.o3
  go_wp2_with fail
  refine (vtoF V_3.out HFW.out).mono ?_
  rintro ev w3 ⟨tv, rfl, ht, hb⟩
  have G_4 := Lib.hid (G_3.out.keep hb)
  have B_4 := Lib.hid (bOn B_3.out hb)
  have V_4 := Lib.hid (V_3.out.below hb)
  have K_4 := Lib.hid (K_3.out.keep hb)
  have T_4 := Lib.hid (ht)
  clear hb G_3 B_3 V_3 K_3 ht k0 k1 k2
  go_wp2_with fail
  refine (vEncodeV T_4.out HIN.out HFW.out.small HR.out).mono ?_
  rintro ev w4 ⟨bv, er, rfl, hu, hf, hb⟩
  obtain ⟨bq, bc, rfl⟩ := hu.shape
  have G_5 := Lib.hid (G_4.out.keep hb)
  have B_5 := Lib.hid (bOn B_4.out hb)
  have V_5 := Lib.hid (V_4.out.below hb)
  have K_5 := Lib.hid (K_4.out.keep hb)
  have T_5 := Lib.hid (T_4.out.below hb)
  have U_5 := Lib.hid (OldB.of hu)
  have F_5 := Lib.hid (hf)
  clear hb G_4 B_4 V_4 K_4 T_4 hu hf
  clear T_5
  obtain ⟨k0, k1, k2, -, -, -⟩ := K_5.out.o3
  go_wp2_with fail
  refine (rEncodeV V_5.out HIN.out HR.out).mono ?_
  rintro ev w5 ⟨cv, wv, rfl, hu, hw, hb⟩
  obtain ⟨wq, wn, wc, rfl⟩ := hw.shape
  have G_6 := Lib.hid (G_5.out.keep hb)
  have B_6 := Lib.hid (bOn B_5.out hb)
  have V_6 := Lib.hid (V_5.out.below hb)
  have K_6 := Lib.hid (K_5.out.keep hb)
  have U_6 := Lib.hid (U_5.out.below hb)
  have F_6 := Lib.hid (FaultV.below hb F_5.out)
  have W_6 := Lib.hid (hw)
  clear hb G_5 B_5 V_5 K_5 U_5 F_5 hu hw k0 k1 k2
  obtain ⟨pW5, hpW5⟩ : ∃ p, w5.heap.size = p := ⟨_, rfl⟩
  obtain ⟨W5, hW5⟩ := named (w5.alloc (.cells #[.slice wq wn wc, .int .i64 Re] 40))
  have hb : Below w5.heap.size w5 W5 := by rw [hW5]; exact below_new8 _
  have G_7 := Lib.hid (G_6.out.keep hb)
  have B_7 := Lib.hid (bOn B_6.out hb)
  have V_7 := Lib.hid (V_6.out.below hb)
  have K_7 := Lib.hid (K_6.out.keep hb)
  have U_7 := Lib.hid (U_6.out.below hb)
  have F_7 := Lib.hid (FaultV.below hb F_6.out)
  have W_7 := Lib.hid (WrongV.below hb W_6.out)
  have L_7 : Hid (Blk W5 pW5 #[.slice wq wn wc, .int .i64 Re] 40) := by rw [hW5]; exact Lib.hid (Blk.new _ _ _ _ (by simp [hpW5]))
  go_upto_region 7 with fail
  rw [← hW5]
  clear hb hW5 hpW5 G_6 B_6 V_6 K_6 U_6 F_6 W_6
  obtain ⟨l0, l1, -, -⟩ := L_7.out.o2
  go_wp2_with fail
  refine (tells_post _ _ Rp Re _ G_7.out F_7.out W_7.out HFL.out).mono ?_
  rintro ev w6 ⟨rfl, hb⟩
  have G_8 := Lib.hid (G_7.out.keep hb)
  have B_8 := Lib.hid (bOn B_7.out hb)
  have V_8 := Lib.hid (V_7.out.below hb)
  have K_8 := Lib.hid (K_7.out.keep hb)
  have U_8 := Lib.hid (U_7.out.below hb)
  have F_8 := Lib.hid (FaultV.below hb F_7.out)
  have W_8 := Lib.hid (WrongV.below hb W_7.out)
  have L_8 := Lib.hid (L_7.out.keep hb)
  clear hb G_7 B_7 V_7 K_7 U_7 F_7 W_7 L_7 l0 l1
  go_wp2_with fail
  go_ret
  exact ⟨rfl, B_8.out⟩

set_option maxHeartbeats 8000000 in
set_option maxRecDepth 100000 in
theorem turned_ok (v : Value) (n : NetD) (A C D : Int) (w : World) (hg : ErrT w) (hv : NetV w v n) (hin : InNet n) (a0 : 0 ≤ A) (a1 : A ≤ 65535) (c0 : 0 ≤ C) (c1 : C ≤ 255) (d0 : 0 ≤ D) (d1 : D ≤ 65535) (hm : mayN n = true) (he : (encodeF n).2.2 = 0) :
    Calls Tryz.prog 5 #[v, .int .u16 A, .int .u8 C, .int .u16 D] w fun e w' => e = .returned (.bool true) ∧ Below w.heap.size w w' := by
  obtain ⟨vq, aq, tq, vc, ac, tc, rfl, -⟩ := hv.shape
  have HIN := Lib.hid hin
  obtain ⟨HF1, hc1, -⟩ := may_of hm
  have HFW := Lib.hid HF1
  have hck : (chkN n).2 = 0 := by rw [hc1]; rfl
  have hle : (fileN n).length ≤ 65536 := by
    unfold encodeF at he
    rw [if_neg (by omega)] at he
    by_cases h2 : 65536 < (fileN n).length
    · rw [if_pos h2] at he; simp at he
    · omega
  have hR : encodeF n = (fileN n, ([], 0)) := by
    unfold encodeF
    rw [if_neg (by omega), if_neg (by omega)]
    rfl
  have h8 : 8 ≤ (fileN n).length := by rw [fileN_len, bodyN_len]; omega
  have hL8 := fileN_in8 hck
  obtain ⟨L, hL⟩ : ∃ L, fileN n = L := ⟨_, rfl⟩
  have hpar : parseF (fileN n) = (n, ([], 0)) := parse_file hck hle
  have htur : ∀ {k : Nat} (hk : k < L.length) {c : Int}, 0 ≤ c ∧ c ≤ 255 → ¬ c = L[k] → parseF (L.set k c) = (emptyN, ([(fileB, 0)], 11)) := by
    intro k hk c hc hne
    subst hL
    exact parse_turned hck hle hk hc hne
  have hcut : ∀ {k : Nat}, k < 8 → parseF (L.take k) = (emptyN, ([(fileB, 0)], 3)) := fun hk => by rw [← hL]; exact parse_cut hk
  rw [hL] at hR hle h8 hL8 hpar
  have hN0 : (0 : Int) < (L.length : Int) := by omega
  obtain ⟨K, hK⟩ : ∃ K : Nat, A % (L.length : Int) = K := ⟨(A % (L.length : Int)).toNat, by have := Int.emod_nonneg A (show (L.length : Int) ≠ 0 by omega); omega⟩
  have hKl : K < L.length := by have := Int.emod_lt_of_pos A hN0; omega
  have hKi : (K : Int) < (L.length : Int) := by omega
  have hKt : Int.tmod A (L.length : Int) = K := by rw [Int.tmod_eq_emod_of_nonneg a0, hK]
  obtain ⟨J, hJ⟩ : ∃ J : Nat, D % 8 = J := ⟨(D % 8).toNat, by omega⟩
  have hJ8 : J < 8 := by omega
  have hJt : Int.tmod D 8 = J := by rw [Int.tmod_eq_emod_of_nonneg d0, hJ]
  have hwA : IntKind.i64.wrap A = A := wrap_small (by omega) (by omega)
  have hwD : IntKind.i64.wrap D = D := wrap_small (by omega) (by omega)
  have hwK : IntKind.i64.wrap (K : Int) = K := wrap_small (by omega) (by omega)
  have hwJ : IntKind.i64.wrap (J : Int) = J := wrap_small (by omega) (by omega)
  have hz1 : ((L.length : Int) == 0) = false := beq_eq_false_iff_ne.2 (by omega)
  have hz2 : ¬ (L.length : Int) = 0 := by omega
  have hl8 : decide ((L.length : Int) < 8) = false := decide_eq_false (by omega)
  obtain ⟨BK, hBK⟩ : ∃ b, L[K] = b := ⟨_, rfl⟩
  have HR := Lib.hid hR
  have HL8 := Lib.hid hL8
  have HPAR := Lib.hid hpar
  have HTUR := Lib.hid (htur hKl (c := C) ⟨c0, c1⟩)
  have HCUT := Lib.hid (hcut hJ8)
  have HBK := Lib.hid hBK
  have hset : C = BK → L.set K C = L := fun e => by rw [e, ← hBK]; exact List.set_getElem_self hKl
  have HSET := Lib.hid hset
  have HC := Lib.hid (show 0 ≤ C ∧ C ≤ 255 from ⟨c0, c1⟩)
  have HLE := Lib.hid hle
  clear HF1 hc1 hck hL hR hL8 hpar htur hcut hBK hset he hK hJ a0 a1 d0 d1 hle
  have G_0 := Lib.hid (hg)
  have B_0 := Lib.hid (Below.refl w.heap.size w)
  have V_0 := Lib.hid (hv)
  clear hg hv hin
  go_enter Tryz.func5, Tryz.ntmps5
  obtain ⟨pW0, hpW0⟩ : ∃ p, w.heap.size = p := ⟨_, rfl⟩
  obtain ⟨W0, hW0⟩ := named (w.alloc (.cells #[.slice vq n.v.length vc, .slice aq n.a.length ac, .slice tq n.t.length tc] 37))
  have hb : Below w.heap.size w W0 := by rw [hW0]; exact below_new8 _
  have G_1 := Lib.hid (G_0.out.keep hb)
  have B_1 := Lib.hid (bOn B_0.out hb)
  have V_1 := Lib.hid (V_0.out.below hb)
  have K_1 : Hid (Blk W0 pW0 #[.slice vq n.v.length vc, .slice aq n.a.length ac, .slice tq n.t.length tc] 37) := by rw [hW0]; exact Lib.hid (Blk.new _ _ _ _ (by simp [hpW0]))
  go_upto_region 1 with fail
  rw [← hW0]
  clear hb hW0 hpW0 G_0 B_0 V_0
  go_wp2_with fail
  refine (known5_any _ G_1.out).mono ?_
  rintro ev w1 ⟨rfl, hb⟩
  have G_2 := Lib.hid (G_1.out.keep hb)
  have B_2 := Lib.hid (bOn B_1.out hb)
  have V_2 := Lib.hid (V_1.out.below hb)
  have K_2 := Lib.hid (K_1.out.keep hb)
  clear hb G_1 B_1 V_1 K_1 
  obtain ⟨k0, k1, k2, -, -, -⟩ := K_2.out.o3
  go_wp2_with fail
  refine (vmay V_2.out HIN.out hm).mono ?_
  rintro ev w2 ⟨rfl, hb⟩
  have G_3 := Lib.hid (G_2.out.keep hb)
  have B_3 := Lib.hid (bOn B_2.out hb)
  have V_3 := Lib.hid (V_2.out.below hb)
  have K_3 := Lib.hid (K_2.out.keep hb)
  clear hb G_2 B_2 V_2 K_2 k0 k1 k2
  obtain ⟨k0, k1, k2, -, -, -⟩ := K_3.out.o3
  go_wp2_with fail
  refine (vtoF V_3.out HFW.out).mono ?_
  rintro ev w3 ⟨tv, rfl, ht, hb⟩
  have G_4 := Lib.hid (G_3.out.keep hb)
  have B_4 := Lib.hid (bOn B_3.out hb)
  have V_4 := Lib.hid (V_3.out.below hb)
  have K_4 := Lib.hid (K_3.out.keep hb)
  have T_4 := Lib.hid (ht)
  clear hb G_3 B_3 V_3 K_3 ht k0 k1 k2
  go_wp2_with fail
  refine (vEncodeV T_4.out HIN.out HFW.out.small HR.out).mono ?_
  rintro ev w4 ⟨bv, er, rfl, hu, hf, hb⟩
  obtain ⟨bq, bc, rfl⟩ := hu.shape
  have G_5 := Lib.hid (G_4.out.keep hb)
  have B_5 := Lib.hid (bOn B_4.out hb)
  have V_5 := Lib.hid (V_4.out.below hb)
  have K_5 := Lib.hid (K_4.out.keep hb)
  have T_5 := Lib.hid (T_4.out.below hb)
  have U_5 := Lib.hid (OldB.of hu)
  have F_5 := Lib.hid (hf)
  clear hb G_4 B_4 V_4 K_4 T_4 hu hf
  clear T_5
  obtain ⟨k0, k1, k2, -, -, -⟩ := K_5.out.o3
  go_wp2_with fail
  refine (rEncodeV V_5.out HIN.out HR.out).mono ?_
  rintro ev w5 ⟨cv, wv, rfl, hu, hw, hb⟩
  obtain ⟨wq, wn, wc, rfl⟩ := hw.shape
  have G_6 := Lib.hid (G_5.out.keep hb)
  have B_6 := Lib.hid (bOn B_5.out hb)
  have V_6 := Lib.hid (V_5.out.below hb)
  have K_6 := Lib.hid (K_5.out.keep hb)
  have U_6 := Lib.hid (U_5.out.below hb)
  have F_6 := Lib.hid (FaultV.below hb F_5.out)
  have W_6 := Lib.hid (hw)
  clear hb G_5 B_5 V_5 K_5 U_5 F_5 hu hw k0 k1 k2
  obtain rfl := FaultV.none F_6.out
  clear F_6
  obtain ⟨pW5, hpW5⟩ : ∃ p, w5.heap.size = p := ⟨_, rfl⟩
  obtain ⟨W5, hW5⟩ := named (w5.alloc (.cells #[.slice wq wn wc, .int .i64 0] 40))
  have hb : Below w5.heap.size w5 W5 := by rw [hW5]; exact below_new8 _
  have G_7 := Lib.hid (G_6.out.keep hb)
  have B_7 := Lib.hid (bOn B_6.out hb)
  have V_7 := Lib.hid (V_6.out.below hb)
  have K_7 := Lib.hid (K_6.out.keep hb)
  have U_7 := Lib.hid (U_6.out.below hb)
  have W_7 := Lib.hid (WrongV.below hb W_6.out)
  have L_7 : Hid (Blk W5 pW5 #[.slice wq wn wc, .int .i64 0] 40) := by rw [hW5]; exact Lib.hid (Blk.new _ _ _ _ (by simp [hpW5]))
  go_upto_region 7 with fail
  rw [← hW5]
  clear hb hW5 hpW5 G_6 B_6 V_6 K_6 U_6 W_6
  obtain ⟨l0, l1, -, -⟩ := L_7.out.o2
  have hbc := U_7.out.cap.2
  have hJc : (J : Int) ≤ (bc : Int) := by omega
  have hKc : (K : Int) < (bc : Int) := by omega
  go_upto_region 12 with fail
  clear l0 l1
  have hb0 : Below W5.heap.size W5 (W5.alloc (.cells #[] 5)) := below_new8 _
  obtain ⟨xv, w6, z, hrun, -, -, hbx, hown⟩ := copy8 (W5.alloc (.cells #[] 5)) (.slice bq L.length bc) L (U_7.out.below hb0).s (by have := HLE.out; omega) W5.heap.size
  have hown' := hown.resolve_left (fun e => by rw [e] at h8; simp at h8)
  obtain ⟨g, cc, rfl, hgb, hcell, hfr, hset⟩ := store8 hown' (by have := HLE.out; omega) hKl C
  have hgw : W5.heap.size ≤ g := by have := hb0.size; omega
  have HRUN := Lib.hid hrun
  have hb : Below W5.heap.size W5 (w6.setCell ⟨g, K, none⟩ (.int .u8 C)) := (hb0.trans (hbx.mono hb0.size)).setCell (by simp only []; omega) _
  obtain ⟨W6, hW6⟩ := named (w6.setCell ⟨g, K, none⟩ (.int .u8 C))
  rw [← hW6] at hb hset
  have G_8 := Lib.hid (G_7.out.keep hb)
  have B_8 := Lib.hid (bOn B_7.out hb)
  have V_8 := Lib.hid (V_7.out.below hb)
  have K_8 := Lib.hid (K_7.out.keep hb)
  have U_8 := Lib.hid (U_7.out.below hb)
  have W_8 := Lib.hid (WrongV.below hb W_7.out)
  have L_8 := Lib.hid (L_7.out.keep hb)
  have X_8 := Lib.hid (hset)
  clear hb hb0 hbx hrun hown hown' hset hgb hgw G_7 B_7 V_7 K_7 U_7 W_7 L_7
  go_upto_region 13 with (at_builtin; refine wpList_append_run rfl _ _ 22 rfl _ _ _ rfl rfl HRUN.out ?_)
  clear HRUN
  go_upto_region 14 with fail
  rw [← hW6]
  clear hW6 hcell hfr
  go_wp2_with fail
  by_cases hCB : C = BK
  · have hce : (C == BK) = true := by simp [hCB]
    have hps : parseF (L.set K C) = (n, ([], 0)) := by rw [HSET.out hCB]; exact HPAR.out
    have HPS := Lib.hid hps
    have hx8 : In8 (L.set K C) := fun y hy => by
      rcases List.mem_or_eq_of_mem_set hy with h | h
      · exact HL8.out y h
      · rw [h]; exact HC.out
    have HX8 := Lib.hid hx8
    clear hps hx8 hCB
    refine (vParseV X_8.out HX8.out HPS.out).mono ?_
    rintro ev w7 ⟨nv, fv, rfl, hn, hf, hb⟩
    obtain ⟨vq2, aq2, tq2, vc2, ac2, tc2, rfl, -⟩ := hn.shape
    obtain rfl := FaultV.none hf
    have G_9 := Lib.hid (G_8.out.keep hb)
    have B_9 := Lib.hid (bOn B_8.out hb)
    have V_9 := Lib.hid (V_8.out.below hb)
    have K_9 := Lib.hid (K_8.out.keep hb)
    have U_9 := Lib.hid (U_8.out.below hb)
    have W_9 := Lib.hid (WrongV.below hb W_8.out)
    have L_9 := Lib.hid (L_8.out.keep hb)
    have X_9 := Lib.hid (X_8.out.below hb)
    clear hb G_8 B_8 V_8 K_8 U_8 W_8 L_8 X_8 hn hf
    clear X_9
    obtain ⟨W7, hW7⟩ : ∃ W, w7.alloc (.cells #[.slice vq2 n.v.length vc2, .slice aq2 n.a.length ac2, .slice tq2 n.t.length tc2] 28) = W := ⟨_, rfl⟩
    have hb : Below w7.heap.size w7 W7 := by rw [← hW7]; exact below_new8 _
    have G_10 := Lib.hid (G_9.out.keep hb)
    have B_10 := Lib.hid (bOn B_9.out hb)
    have V_10 := Lib.hid (V_9.out.below hb)
    have K_10 := Lib.hid (K_9.out.keep hb)
    have U_10 := Lib.hid (U_9.out.below hb)
    have W_10 := Lib.hid (WrongV.below hb W_9.out)
    have L_10 := Lib.hid (L_9.out.keep hb)
    go_upto_region 15 with fail
    first | rw [hW7] | (simp only [emptyN, List.length_nil] at hW7; rw [hW7]) | skip
    clear hb hW7 G_9 B_9 V_9 K_9 U_9 W_9 L_9
    obtain ⟨x, o, hq, -, hbcell⟩ := U_10.out.at K hKl
    rw [HBK.out] at hbcell
    subst hq
    go_wp2_with fail
    go_ret
    exact ⟨rfl, B_10.out⟩
  · have hce : (C == BK) = false := by simpa using hCB
    have hps := HTUR.out (by rw [HBK.out]; exact hCB)
    have HPS := Lib.hid hps
    have hx8 : In8 (L.set K C) := fun y hy => by
      rcases List.mem_or_eq_of_mem_set hy with h | h
      · exact HL8.out y h
      · rw [h]; exact HC.out
    have HX8 := Lib.hid hx8
    clear hps hx8 hCB
    refine (vParseV X_8.out HX8.out HPS.out).mono ?_
    rintro ev w7 ⟨nv, fv, rfl, hn, hf, hb⟩
    obtain ⟨vq2, aq2, tq2, vc2, ac2, tc2, rfl, -⟩ := hn.shape
    obtain ⟨fb, rfl⟩ := flt_shape hf (by simp)
    have G_9 := Lib.hid (G_8.out.keep hb)
    have B_9 := Lib.hid (bOn B_8.out hb)
    have V_9 := Lib.hid (V_8.out.below hb)
    have K_9 := Lib.hid (K_8.out.keep hb)
    have U_9 := Lib.hid (U_8.out.below hb)
    have W_9 := Lib.hid (WrongV.below hb W_8.out)
    have L_9 := Lib.hid (L_8.out.keep hb)
    have X_9 := Lib.hid (X_8.out.below hb)
    have F_9 := Lib.hid (hf)
    clear hb G_8 B_8 V_8 K_8 U_8 W_8 L_8 X_8 hn hf
    clear X_9
    obtain ⟨W7, hW7⟩ : ∃ W, w7.alloc (.cells #[.slice vq2 emptyN.v.length vc2, .slice aq2 emptyN.a.length ac2, .slice tq2 emptyN.t.length tc2] 28) = W := ⟨_, rfl⟩
    have hb : Below w7.heap.size w7 W7 := by rw [← hW7]; exact below_new8 _
    have G_10 := Lib.hid (G_9.out.keep hb)
    have B_10 := Lib.hid (bOn B_9.out hb)
    have V_10 := Lib.hid (V_9.out.below hb)
    have K_10 := Lib.hid (K_9.out.keep hb)
    have U_10 := Lib.hid (U_9.out.below hb)
    have W_10 := Lib.hid (WrongV.below hb W_9.out)
    have L_10 := Lib.hid (L_9.out.keep hb)
    have F_10 := Lib.hid (FaultV.below hb F_9.out)
    go_upto_region 15 with fail
    first | rw [hW7] | (simp only [emptyN, List.length_nil] at hW7; rw [hW7]) | skip
    clear hb hW7 G_9 B_9 V_9 K_9 U_9 W_9 L_9 F_9
    obtain ⟨x, o, hq, -, hbcell⟩ := U_10.out.at K hKl
    rw [HBK.out] at hbcell
    have HQ := Lib.hid hq
    subst hq
    go_wp2_with fail
    clear hbcell
    refine (vParseV (u := .slice (some ⟨x, o, none⟩) J bc) (U_10.out.take J (by omega)) (HL8.out.take J) HCUT.out).mono ?_
    rintro ev w8 ⟨nv, gv, rfl, hn, hf, hb⟩
    obtain ⟨vq3, aq3, tq3, vc3, ac3, tc3, rfl, -⟩ := hn.shape
    obtain ⟨gb, rfl⟩ := flt_shape hf (by simp)
    have G_11 := Lib.hid (G_10.out.keep hb)
    have B_11 := Lib.hid (bOn B_10.out hb)
    have V_11 := Lib.hid (V_10.out.below hb)
    have K_11 := Lib.hid (K_10.out.keep hb)
    have U_11 := Lib.hid (U_10.out.below hb)
    have W_11 := Lib.hid (WrongV.below hb W_10.out)
    have L_11 := Lib.hid (L_10.out.keep hb)
    have F_11 := Lib.hid (FaultV.below hb F_10.out)
    have H_11 := Lib.hid (hf)
    clear hb G_10 B_10 V_10 K_10 U_10 W_10 L_10 F_10 hn hf
    obtain ⟨W8, hW8⟩ : ∃ W, w8.alloc (.cells #[.slice vq3 emptyN.v.length vc3, .slice aq3 emptyN.a.length ac3, .slice tq3 emptyN.t.length tc3] 28) = W := ⟨_, rfl⟩
    have hb : Below w8.heap.size w8 W8 := by rw [← hW8]; exact below_new8 _
    have G_12 := Lib.hid (G_11.out.keep hb)
    have B_12 := Lib.hid (bOn B_11.out hb)
    have V_12 := Lib.hid (V_11.out.below hb)
    have K_12 := Lib.hid (K_11.out.keep hb)
    have U_12 := Lib.hid (U_11.out.below hb)
    have W_12 := Lib.hid (WrongV.below hb W_11.out)
    have L_12 := Lib.hid (L_11.out.keep hb)
    have F_12 := Lib.hid (FaultV.below hb F_11.out)
    have H_12 := Lib.hid (FaultV.below hb H_11.out)
    go_upto_region 18 with fail
    first | rw [hW8] | (simp only [emptyN, List.length_nil] at hW8; rw [hW8]) | skip
    clear hb hW8 G_11 B_11 V_11 K_11 U_11 W_11 L_11 F_11 H_11
    go_wp2_with fail
    refine (at_post fileB 0 11 _).mono ?_
    rintro ev w9 ⟨av, rfl, ha, hb⟩
    have G_13 := Lib.hid (G_12.out.keep hb)
    have B_13 := Lib.hid (bOn B_12.out hb)
    have V_13 := Lib.hid (V_12.out.below hb)
    have K_13 := Lib.hid (K_12.out.keep hb)
    have U_13 := Lib.hid (U_12.out.below hb)
    have W_13 := Lib.hid (WrongV.below hb W_12.out)
    have L_13 := Lib.hid (L_12.out.keep hb)
    have F_13 := Lib.hid (FaultV.below hb F_12.out)
    have H_13 := Lib.hid (FaultV.below hb H_12.out)
    have P_13 := Lib.hid (ha)
    clear hb G_12 B_12 V_12 K_12 U_12 W_12 L_12 F_12 H_12 ha
    go_wp2_with fail
    refine (tells_post _ _ [(fileB, 0)] 11 _ G_13.out F_13.out P_13.out (Or.inr (by simp))).mono ?_
    rintro ev wa ⟨rfl, hb⟩
    have G_14 := Lib.hid (G_13.out.keep hb)
    have B_14 := Lib.hid (bOn B_13.out hb)
    have V_14 := Lib.hid (V_13.out.below hb)
    have K_14 := Lib.hid (K_13.out.keep hb)
    have U_14 := Lib.hid (U_13.out.below hb)
    have W_14 := Lib.hid (WrongV.below hb W_13.out)
    have L_14 := Lib.hid (L_13.out.keep hb)
    have F_14 := Lib.hid (FaultV.below hb F_13.out)
    have H_14 := Lib.hid (FaultV.below hb H_13.out)
    have P_14 := Lib.hid (WrongV.below hb P_13.out)
    clear hb G_13 B_13 V_13 K_13 U_13 W_13 L_13 F_13 H_13 P_13 
    go_wp2_with fail
    clear P_14
    refine (at_post fileB 0 3 _).mono ?_
    rintro ev wb ⟨av2, rfl, ha, hb⟩
    have G_15 := Lib.hid (G_14.out.keep hb)
    have B_15 := Lib.hid (bOn B_14.out hb)
    have V_15 := Lib.hid (V_14.out.below hb)
    have K_15 := Lib.hid (K_14.out.keep hb)
    have U_15 := Lib.hid (U_14.out.below hb)
    have W_15 := Lib.hid (WrongV.below hb W_14.out)
    have L_15 := Lib.hid (L_14.out.keep hb)
    have F_15 := Lib.hid (FaultV.below hb F_14.out)
    have H_15 := Lib.hid (FaultV.below hb H_14.out)
    have P_15 := Lib.hid (ha)
    clear hb G_14 B_14 V_14 K_14 U_14 W_14 L_14 F_14 H_14 ha
    go_wp2_with fail
    refine (tells_post _ _ [(fileB, 0)] 3 _ G_15.out H_15.out P_15.out (Or.inr (by simp))).mono ?_
    rintro ev wc ⟨rfl, hb⟩
    have G_16 := Lib.hid (G_15.out.keep hb)
    have B_16 := Lib.hid (bOn B_15.out hb)
    have V_16 := Lib.hid (V_15.out.below hb)
    have K_16 := Lib.hid (K_15.out.keep hb)
    have U_16 := Lib.hid (U_15.out.below hb)
    have W_16 := Lib.hid (WrongV.below hb W_15.out)
    have L_16 := Lib.hid (L_15.out.keep hb)
    have F_16 := Lib.hid (FaultV.below hb F_15.out)
    have H_16 := Lib.hid (FaultV.below hb H_15.out)
    have P_16 := Lib.hid (WrongV.below hb P_15.out)
    clear hb G_15 B_15 V_15 K_15 U_15 W_15 L_15 F_15 H_15 P_15 
    go_wp2_with fail
    go_ret
    exact ⟨rfl, B_16.out⟩

theorem turned_any (v : Value) (n : NetD) (A C D : Int) (w : World) (hg : ErrT w) (hv : NetV w v n) (hin : InNet n) (a0 : 0 ≤ A) (a1 : A ≤ 65535) (c0 : 0 ≤ C) (c1 : C ≤ 255) (d0 : 0 ≤ D) (d1 : D ≤ 65535) :
    Calls Tryz.prog 5 #[v, .int .u16 A, .int .u8 C, .int .u16 D] w fun e w' => e = .returned (.bool true) ∧ Below w.heap.size w w' := by
  cases hm : mayN n with
  | false => exact turned_not v n A C D w hg hv hin hm
  | true =>
    by_cases he : (encodeF n).2.2 = 0
    · exact turned_ok v n A C D w hg hv hin a0 a1 c0 c1 d0 d1 hm he
    · exact turned_err v n A C D w hg hv hin hm he

set_option maxRecDepth 100000 in
theorem fileTurned_walks : Walks laidAll 5 Tryz.f5 := by
  intro H enc W args ds g
  obtain ⟨ps, hA⟩ := g.reads
  obtain ⟨base, hval⟩ := g.okay
  rw [Tryz.params5] at hA hval
  obtain ⟨v0, vs0, d0, ds0, p0, q0, hargs, rfl, rfl, h0, r0⟩ := trodAll_cons hA
  obtain ⟨v1, vs1, d1, ds1, p1, q1, rfl, rfl, rfl, h1, r1⟩ := trodAll_cons r0
  obtain ⟨v2, vs2, d2, ds2, p2, q2, rfl, rfl, rfl, h2, r2⟩ := trodAll_cons r1
  obtain ⟨v3, vs3, d3, ds3, p3, q3, rfl, rfl, rfl, h3, r3⟩ := trodAll_cons r2
  obtain ⟨rfl, rfl, rfl⟩ := trodAll_nil r3
  obtain rfl : args = #[v0, v1, v2, v3] := Array.toList_inj.1 hargs
  obtain ⟨n0, w0, u0⟩ := open_net (hval 0 37 v0 rfl rfl) h0
  obtain ⟨x1, rfl, rfl, rfl, w1⟩ := open_int Tryz.underlying53 (hval 1 53 v1 rfl rfl) h1
  obtain ⟨x2, rfl, rfl, rfl, w2⟩ := open_int Tryz.underlying5 (hval 2 5 v2 rfl rfl) h2
  obtain ⟨x3, rfl, rfl, rfl, w3⟩ := open_int Tryz.underlying53 (hval 3 53 v3 rfl rfl) h3
  exact turned_any v0 n0 x1 x2 x3 W (errT_of_laid g.laid) w0 u0 (wfq16 w1).1 (wfq16 w1).2 (wfq8 w2).1 (wfq8 w2).2 (wfq16 w3).1 (wfq16 w3).2

theorem fileTurned_row : Rows.FileTurnedSaid :=
  OpenClaim.holds_of_wide 5 Tryz.f5 rfl rfl rfl rfl rfl rfl rfl ⟨rfl, rfl, rfl, rfl, rfl⟩ rfl rfl rfl rfl rfl (by kernel_rfl) Tryz.func5 (by kernel_rfl)
    (of_decide_eq_true (by kernel_rfl)) (by unfold Func.isWrapper; rw [if_neg (of_decide_eq_false (by kernel_rfl))]; exact ⟨rfl, rfl⟩)
    (fun os started H enc _ => law_lifted (s := Rows.fileTurnedSpec) (L := laidAll) Tryz.func5 (by kernel_rfl) rfl (by kernel_rfl)
      (fun H ds hl => by
        rw [Tryz.params5] at hl
        match ds, hl with
        | [_, _, _, _], _ => exact ⟨rfl, rfl, rfl⟩)
      (by kernel_rfl) os started H enc
      (ChangeSpec.witness_at (enc := enc) (C := Tryz.checked) (os := os) (X := fun w _ => laidMetH Tryz.prog laidAll w) false (laidWorld os) #[.agg #[.slice none 0 0, .slice none 0 0, .slice none 0 0], .int .u16 0, .int .u8 0, .int .u16 0] 8 rfl (by kernel_rfl) (by kernel_rfl) (by kernel_rfl) (by kernel_rfl) (by kernel_rfl) (laidWorld_met os _))
      fileTurned_walks)

theorem fileTurned_card : Rows.FileTurnedCardSaid :=
  Claim7.holds_tied_plain_at .later [] laidKindsAll true (Rows.fileTurnedCard.stood.harness) true
    fileTurned_row (fun _ h => by cases h) (by kernel_rfl) (fun _ h => by cases h) fileTurned_row_tie rfl ⟨rfl, rfl⟩ (by kernel_rfl) rfl
    (fun f fn hf hfn => by
      obtain rfl : f = 5 := Option.some.inj ((show Tryz.prog.funcNamed "roundsman/roundsmanlaw5.FileTurned" = some 5 by kernel_rfl).symm.trans hf) |>.symm
      obtain rfl : fn = Tryz.f5 := (Option.some.inj (Tryz.func5.symm.trans hfn)).symm
      exact ⟨by kernel_rfl, fun j t ht => by
        rw [Tryz.params5] at ht
        exact stand_all #[37, 53, 5, 53] (by kernel_rfl) j t ht⟩)
    (by kernel_rfl)
#print axioms fileTurned_card

end Go.Proofs.YtjapdbegfanfiaaGreatDoor
