/-
  PROVED: bytes that are taken in parts are these bytes; one part too many is refused, and takes nothing. For every row of bytes and of sizes. Conditions: the listed library variable holds what the program's own text lays (the card ties it).
-/
import Derived.Test.YtjicekblfpgkdaaDoorKnown4
import Derived.Test.YtjicekblfpgkdaaDoorLaid4
import Derived.Test.YtjicekblfpgkdaaDoorCards
import Derived.Test.YtjicekblfpgkdaaDoorTie
import Derived.SevenTiedAt
import Derived.Test.YtjicekblfpgkdaaDoorW4B
namespace Go.Proofs.YtjicekblfpgkdaaDoor
open Go.ChangeShapes Go.WideShapes Go.ChangeAt Go.RowKit

theorem sl_part {p : Option Addr} {c a n x y z : Nat} (h1 : x = n) (h2 : y = c - a) (h3 : z = a) : Value.slice (if c = z then p else Option.map (fun q => q.add z) p) x y = .slice (moved p c a) n (c - a) := by
  subst h1 h2 h3
  rfl
theorem bytes_ok {l : List Int} {a n : Nat} (h : a + n ≤ l.length) : bytesR l a 0 n = ((l.drop a).take n, a + n, 0) := by
  unfold bytesR
  rw [if_pos rfl, if_neg (by omega), if_neg (by omega)]
  rfl
theorem bytes_short {l : List Int} {a n : Nat} (h : l.length - a < n) : bytesR l a 0 n = ([], a, 3) := by
  unfold bytesR
  rw [if_pos rfl, if_neg (by omega), if_pos (by omega)]
theorem bytes_behind {l : List Int} {a : Nat} : bytesR l a 3 0 = ([], a, 3) := rfl

set_option maxHeartbeats 8000000 in
set_option maxRecDepth 100000 in
theorem parts_long (v u : Value) (l m : List Int) (w : World) (hg : ErrT w) (hv : U8s w v l) (hu : U8s w u m) (hl : ¬ l.length ≤ 300) :
    Calls Tryd.prog 7 #[v, u] w fun e w' => e = .returned (.bool true) ∧ Below w.heap.size w w' := by
  obtain ⟨p0, c0, rfl⟩ : ∃ q c, v = .slice q l.length c := by obtain ⟨x, h⟩ := hv; exact h.shape
  obtain ⟨pm, cm, rfl⟩ : ∃ q c, u = .slice q m.length c := by obtain ⟨x, h⟩ := hu; exact h.shape
  have d1 : decide ((300 : Int) < (l.length : Int)) = true := decide_eq_true (by omega)
  clear hl hv hu
  go_enter Tryd.func7, Tryd.ntmps7
  go_wp2_with fail
  have B_0 := Lib.hid (Below.refl w.heap.size w)
  have HG := Lib.hid hg
  clear hg
  refine (known4_any _ HG.out).mono ?_
  rintro ev w1 ⟨rfl, hb⟩
  have B_1 := Lib.hid (bOn B_0.out hb)
  clear hb B_0
  go_wp2_with fail
  go_ret
  exact ⟨rfl, B_1.out⟩

set_option maxHeartbeats 8000000 in
set_option maxRecDepth 100000 in
theorem parts_many (v u : Value) (l m : List Int) (w : World) (hg : ErrT w) (hv : U8s w v l) (hu : U8s w u m) (hl : l.length ≤ 300) (hm : ¬ m.length ≤ 60) :
    Calls Tryd.prog 7 #[v, u] w fun e w' => e = .returned (.bool true) ∧ Below w.heap.size w w' := by
  obtain ⟨p0, c0, rfl⟩ : ∃ q c, v = .slice q l.length c := by obtain ⟨x, h⟩ := hv; exact h.shape
  obtain ⟨pm, cm, rfl⟩ : ∃ q c, u = .slice q m.length c := by obtain ⟨x, h⟩ := hu; exact h.shape
  have d1 : decide ((300 : Int) < (l.length : Int)) = false := decide_eq_false (by omega)
  have d2 : decide ((60 : Int) < (m.length : Int)) = true := decide_eq_true (by omega)
  clear hl hm hv hu
  go_enter Tryd.func7, Tryd.ntmps7
  go_wp2_with fail
  have B_0 := Lib.hid (Below.refl w.heap.size w)
  have HG := Lib.hid hg
  clear hg
  refine (known4_any _ HG.out).mono ?_
  rintro ev w1 ⟨rfl, hb⟩
  have B_1 := Lib.hid (bOn B_0.out hb)
  clear hb B_0
  go_wp2_with fail
  go_ret
  exact ⟨rfl, B_1.out⟩

set_option maxHeartbeats 8000000 in
set_option maxRecDepth 100000 in
theorem parts_main (v u : Value) (l m : List Int) (w : World) (hg : ErrT w) (hv : U8s w v l) (hu : U8s w u m) (hin : In8 l) (hmn : In8 m) (hl : l.length ≤ 300) (hm : m.length ≤ 60) :
    Calls Tryd.prog 7 #[v, u] w fun e w' => e = .returned (.bool true) ∧ Below w.heap.size w w' := by
  obtain ⟨p0, c0, rfl⟩ : ∃ q c, v = .slice q l.length c := by obtain ⟨x, h⟩ := hv; exact h.shape
  obtain ⟨pm, cm, rfl⟩ : ∃ q c, u = .slice q m.length c := by obtain ⟨x, h⟩ := hu; exact h.shape
  have d1 : decide ((300 : Int) < (l.length : Int)) = false := decide_eq_false (by omega)
  have d2 : decide ((60 : Int) < (m.length : Int)) = false := decide_eq_false (by omega)
  have HIN := Lib.hid hin
  have HMN := Lib.hid hmn
  have HV := Lib.hid (OldB.of hv)
  have HQ := Lib.hid (OldB.of hu)
  clear hin hmn hv hu
  go_enter Tryd.func7, Tryd.ntmps7
  go_wp2_with fail
  have B_0 := Lib.hid (Below.refl w.heap.size w)
  have HG := Lib.hid hg
  clear hg
  refine (known4_any _ HG.out).mono ?_
  rintro ev w1 ⟨rfl, hb⟩
  have B_1 := Lib.hid (bOn B_0.out hb)
  clear hb B_0
  go_wp2_with fail
  refine (new_any _ l _ (HV.out.keep B_1.out).s HIN.out (by omega)).mono ?_
  rintro ev w2 ⟨b, rfl, hr, hb⟩
  have B_2 := Lib.hid (bOn B_1.out hb)
  have z1 : w.heap.size ≤ b := by have h1 := hr.lt; have h2 := B_1.out.size; omega
  have R_2 := Lib.hid (hr)
  clear hb B_1 hr
  go_wp2_with fail
  go_loopw [6, 7, 8, 9] (fun s i _ _ wr => ∃ k a : Nat, k ≤ m.length ∧ s = .int .i64 a ∧ i = .int .i64 k ∧ Hid (RdV wr w1.heap.size b l a 0) ∧ Hid (Below w.heap.size w wr)) (fun _ i _ _ _ => m.length - (intOf i).toNat)
  case atStart => exact ⟨0, 0, Nat.zero_le _, rfl, rfl, R_2, B_2⟩
  case round =>
    obtain ⟨k, a, hk, rfl, rfl, HR, HB⟩ := hrel
    obtain ⟨-, -, ha⟩ := HR.out.lt
    by_cases hlt : k < m.length
    · have hki : (k : Int) < m.length := by omega
      obtain ⟨X, hX⟩ : ∃ X, m[k] = X := ⟨_, rfl⟩
      have hx := HMN.out.at k hlt
      rw [hX] at hx
      obtain ⟨n, hn⟩ : ∃ n : Nat, X.tmod 40 = n := ⟨(X.tmod 40).toNat, by rw [Int.tmod_eq_emod_of_nonneg hx.1]; omega⟩
      have hn40 : n < 40 := by rw [Int.tmod_eq_emod_of_nonneg hx.1] at hn; omega
      obtain ⟨xq, hq, -⟩ := HQ.out.keep HB.out
      rcases hq with ⟨h0, -⟩ | ⟨-, oq, cq, -, -, e, hxl, hc⟩
      · subst h0; simp at hlt
      injection e with e1 _ e3
      subst e1 e3
      have g := hc k hlt
      rw [hX] at g
      clear hc hX hxl
      by_cases hs : l.length - a < n
      · have hsi : (l.length : Int) - a < n := by omega
        have d3 : decide ((l.length : Int) - a < n) = true := decide_eq_true hsi
        go_wp2_with fail
        refine (vB (m := []) (a' := a) (e' := 3) HR.out (bytes_short hs) (by omega) (by omega)).mono ?_
        rintro ev w3 ⟨v3, rfl, h3, hr, hb⟩
        obtain ⟨q3, c3, rfl⟩ : ∃ q c, v3 = .slice q 0 c := by obtain ⟨x, h⟩ := h3; exact h.shape
        have R3 := Lib.hid hr
        have B3 := Lib.hid (bOnB HB.out hb z1)
        clear hb hr h3 HR HB g
        go_wp2_with fail
        have R_3 := R3
        refine (vAt R_3.out).mono ?_
        rintro ev w4 ⟨rfl, hb⟩
        have R_4 := Lib.hid (R_3.out.below hb)
        have B_4 := Lib.hid (bOn B3.out hb)
        clear hb R_3 B3
        go_wp2_with fail
        refine (vErr R_4.out (by decide)).mono ?_
        rintro ev w5 ⟨v5, rfl, h5, hb⟩
        have R_5 := Lib.hid (R_4.out.below hb)
        have B_5 := Lib.hid (bOn B_4.out hb)
        have E_5 := Lib.hid (h5)
        clear hb R_4 B_4 h5
        go_wp2_with fail
        refine (vAt6 a 3 _).mono ?_
        rintro ev w6 ⟨v6, rfl, h6, hb⟩
        have R_6 := Lib.hid (R_5.out.below hb)
        have E_6 := Lib.hid (E_5.out.below hb)
        have B_6 := Lib.hid (bOn B_5.out hb)
        have U_6 := Lib.hid (h6)
        clear hb R_5 E_5 B_5 h6
        go_wp2_with fail
        refine (vTells (HG.out.old B_6.out) E_6.out U_6.out (by decide)).mono ?_
        rintro ev w7 ⟨rfl, hb⟩
        have R_7 := Lib.hid (R_6.out.below hb)
        have E_7 := Lib.hid (E_6.out.below hb)
        have U_7 := Lib.hid (U_6.out.below hb)
        have B_7 := Lib.hid (bOn B_6.out hb)
        clear hb R_6 E_6 U_6 B_6
        go_wp2_with fail
        refine (vB (m := []) (a' := a) (e' := 3) R_7.out bytes_behind (by omega) (by omega)).mono ?_
        rintro ev w8 ⟨v8, rfl, h8, -, hb⟩
        obtain ⟨q8, c8, rfl⟩ : ∃ q c, v8 = .slice q 0 c := by obtain ⟨x, h⟩ := h8; exact h.shape
        have HF := Lib.hid (bOnB B_7.out hb z1)
        clear hb h8
        go_wp2_with fail
        go_ret
        exact ⟨rfl, HF.out⟩
      · have hsi : ¬ (l.length : Int) - a < n := by omega
        have d3 : decide ((l.length : Int) - a < n) = false := decide_eq_false hsi
        have han : a + n ≤ l.length := by omega
        obtain ⟨J, hJ⟩ : ∃ J : Nat, a + n = J := ⟨_, rfl⟩
        have hw1 : IntKind.i64.wrap ((a : Int) + (n : Int)) = J := by rw [← hJ]; simp [IntKind.wrap, IntKind.bits, IntKind.signed]; omega
        obtain ⟨TX, hTX⟩ : ∃ s, strOfNums ((l.drop a).take n) = s := ⟨_, rfl⟩
        have KT := Lib.hid hTX
        clear hTX
        go_wp2_with fail
        refine (vB (m := (l.drop a).take n) (a' := a + n) (e' := 0) HR.out (bytes_ok han) (by omega) (by omega)).mono ?_
        rintro ev w3 ⟨v3, rfl, h3, hr, hb⟩
        have U3 := Lib.hid h3
        have R3 := Lib.hid hr
        have B3 := Lib.hid (bOnB HB.out hb z1)
        have hc0 : l.length ≤ c0 := HV.out.cap.2
        have hc1 : a ≤ c0 := by omega
        have hc2 : J ≤ c0 := by omega
        have hc3 : a ≤ J := by omega
        have hJJ := Lib.hid hJ
        clear hJ
        clear hb hr h3 HR HB g
        go_wp2_with fail
        have hGS : Grows (fun w' => Below w3.heap.size w3 w') := Grows.below w3
        refine' wp_growL _ (fun w' => Below w3.heap.size w3 w') [[], [0], [], [], [], [], [4, 5], [2, 3, 6], [7], [1, 8]] (Fact.lit _ :: Fact.lit _ :: Fact.lit _ :: Fact.lit _ :: Fact.lit _ :: Fact.lit _ :: Fact.lit _ :: Fact.lit _ :: Fact.lit _ :: Fact.lit _ :: []) (by kernel_rfl) rfl (by kernel_rfl) (Below.refl _ _).drew ?seqo
        case' seqo => skip
        (first | (refine' grow_skip rfl ?wt1 ?put1 ?next1; (case wt1 => rfl)) | (refine' grow_lit rfl ?wt1 ?run1 ?put1 ?next1; (case wt1 => rfl); (case run1 => (intro w' hS H; clear H; clear hS; go_simp; first | done | exact rfl)))); (case put1 => (simp only [Act.put, List.setIfInBounds_toArray, List.set_cons_zero, List.set_cons_succ]; first | done | exact rfl)); (case' next1 => skip)
        (refine' grow_lit rfl ?wtL1 ?runL1 ?putL1 ?nextL1; (case wtL1 => rfl); (case runL1 => (intro w' hS H; (have q := text_of (U3.out.below hS) KT.out); clear H hS; go_simp; first | done | exact rfl)); (case putL1 => (simp only [Act.put, List.setIfInBounds_toArray, List.set_cons_zero, List.set_cons_succ]; first | done | exact rfl)); (case' nextL1 => skip))
        (first | (refine' grow_skip rfl ?wt2 ?put2 ?next2; (case wt2 => rfl)) | (refine' grow_lit rfl ?wt2 ?run2 ?put2 ?next2; (case wt2 => rfl); (case run2 => (intro w' hS H; clear H; clear hS; go_simp; first | done | exact rfl)))); (case put2 => (simp only [Act.put, List.setIfInBounds_toArray, List.set_cons_zero, List.set_cons_succ]; first | done | exact rfl)); (case' next2 => skip)
        (first | (refine' grow_skip rfl ?wt3 ?put3 ?next3; (case wt3 => rfl)) | (refine' grow_lit rfl ?wt3 ?run3 ?put3 ?next3; (case wt3 => rfl); (case run3 => (intro w' hS H; clear H; clear hS; go_simp; first | done | exact rfl)))); (case put3 => (simp only [Act.put, List.setIfInBounds_toArray, List.set_cons_zero, List.set_cons_succ]; first | done | exact rfl)); (case' next3 => skip)
        (first | (refine' grow_skip rfl ?wt4 ?put4 ?next4; (case wt4 => rfl)) | (refine' grow_lit rfl ?wt4 ?run4 ?put4 ?next4; (case wt4 => rfl); (case run4 => (intro w' hS H; clear H; clear hS; go_simp; first | done | exact rfl)))); (case put4 => (simp only [Act.put, List.setIfInBounds_toArray, List.set_cons_zero, List.set_cons_succ]; first | done | exact rfl)); (case' next4 => skip)
        (first | (refine' grow_skip rfl ?wt5 ?put5 ?next5; (case wt5 => rfl)) | (refine' grow_lit rfl ?wt5 ?run5 ?put5 ?next5; (case wt5 => rfl); (case run5 => (intro w' hS H; clear H; clear hS; go_simp; first | done | exact rfl)))); (case put5 => (simp only [Act.put, List.setIfInBounds_toArray, List.set_cons_zero, List.set_cons_succ]; first | done | exact rfl)); (case' next5 => skip)
        (first | (refine' grow_skip rfl ?wt6 ?put6 ?next6; (case wt6 => rfl)) | (refine' grow_lit rfl ?wt6 ?run6 ?put6 ?next6; (case wt6 => rfl); (case run6 => (intro w' hS H; clear H; clear hS; go_simp; first | done | exact rfl)))); (case put6 => (simp only [Act.put, List.setIfInBounds_toArray, List.set_cons_zero, List.set_cons_succ]; first | done | exact rfl)); (case' next6 => skip)
        (refine' grow_lit rfl ?wtL2 ?runL2 ?putL2 ?nextL2; (case wtL2 => rfl); (case runL2 => (intro w' hS H; clear H hS; go_simp; exact sl_part (p := p0) (c := c0) (a := a) (n := n) (x := J - a) (y := c0 - a) (z := a) (by have := hJJ.out; omega) rfl rfl)); (case putL2 => (simp only [Act.put, List.setIfInBounds_toArray, List.set_cons_zero, List.set_cons_succ]; first | done | exact rfl)); (case' nextL2 => skip))
        (refine' grow_lit rfl ?wtL3 ?runL3 ?putL3 ?nextL3; (case wtL3 => rfl); (case runL3 => (intro w' hS H; (have q := text_of ((HV.out.keep (bOn B3.out hS)).part a n han) KT.out); clear H hS; go_simp; first | done | exact rfl)); (case putL3 => (simp only [Act.put, List.setIfInBounds_toArray, List.set_cons_zero, List.set_cons_succ]; first | done | exact rfl)); (case' nextL3 => skip))
        (first | (refine' grow_skip rfl ?wt7 ?put7 ?next7; (case wt7 => rfl)) | (refine' grow_lit rfl ?wt7 ?run7 ?put7 ?next7; (case wt7 => rfl); (case run7 => (intro w' hS H; clear H; clear hS; go_simp; first | done | exact rfl)))); (case put7 => (simp only [Act.put, List.setIfInBounds_toArray, List.set_cons_zero, List.set_cons_succ]; first | done | exact rfl)); (case' next7 => skip)
        intro w9 hb _
        have R9 := Lib.hid (R3.out.below hb)
        have B9 := Lib.hid (bOn B3.out hb)
        rw [hJJ.out] at R9
        clear hb
        go_wp2_with fail
        go_roundw
        case rel => exact ⟨k + 1, J, by omega, by go_num, by go_num, R9, B9⟩
        case measure => simp [intOf]; omega
    · have hki : ¬ (k : Int) < m.length := by omega
      by_cases hd : a < l.length
      · have hdi : ¬ (a : Int) = (l.length : Int) := by omega
        have d4 : ((a : Int) == (l.length : Int)) = false := by simpa using hdi
        go_wp2_with fail
        refine (vAt HR.out).mono ?_
        rintro ev w3 ⟨rfl, hb⟩
        have R3 := Lib.hid (HR.out.below hb)
        have B3 := Lib.hid (bOn HB.out hb)
        clear hb HR HB
        go_wp2_with fail
        refine (vErr0 R3.out).mono ?_
        rintro ev w4 ⟨rfl, hb⟩
        have R4 := Lib.hid (R3.out.below hb)
        have B4 := Lib.hid (bOn B3.out hb)
        clear hb R3 B3
        go_wp2_with fail
        refine (vDoneL R4.out hd).mono ?_
        rintro ev w5 ⟨v5, rfl, ⟨-, k5, rfl⟩, hb⟩
        have B5 := Lib.hid (bOn B4.out hb)
        clear hb R4 B4
        go_wp2_with fail
        go_ret
        exact ⟨rfl, B5.out⟩
      · have hdi : (a : Int) = (l.length : Int) := by omega
        have d4 : ((a : Int) == (l.length : Int)) = true := by simpa using hdi
        go_wp2_with fail
        refine (vAt HR.out).mono ?_
        rintro ev w3 ⟨rfl, hb⟩
        have R3 := Lib.hid (HR.out.below hb)
        have B3 := Lib.hid (bOn HB.out hb)
        clear hb HR HB
        go_wp2_with fail
        refine (vErr0 R3.out).mono ?_
        rintro ev w4 ⟨rfl, hb⟩
        have R4 := Lib.hid (R3.out.below hb)
        have B4 := Lib.hid (bOn B3.out hb)
        clear hb R3 B3
        go_wp2_with fail
        refine (vDone0 R4.out hd).mono ?_
        rintro ev w5 ⟨rfl, hb⟩
        have B5 := Lib.hid (bOn B4.out hb)
        clear hb R4 B4
        go_wp2_with fail
        go_ret
        exact ⟨rfl, B5.out⟩

theorem parts_walk (v : Value) (l : List Int) (u : Value) (m : List Int) (w : World) (hg : ErrT w) (hv : U8s w v l) (hin : In8 l) (hu : U8s w u m) (hmn : In8 m) :
    Calls Tryd.prog 7 #[v, u] w fun e w' => e = .returned (.bool true) ∧ Below w.heap.size w w' := by
  by_cases hl : l.length ≤ 300
  · by_cases hm : m.length ≤ 60
    · exact parts_main v u l m w hg hv hu hin hmn hl hm
    · exact parts_many v u l m w hg hv hu hl hm
  · exact parts_long v u l m w hg hv hu hl

set_option maxRecDepth 100000 in
theorem wireParts_walks : Walks laidAll 7 Tryd.f7 := by
  intro H enc W args ds g
  obtain ⟨ps, hA⟩ := g.reads
  obtain ⟨base, hval⟩ := g.okay
  rw [Tryd.params7] at hA hval
  obtain ⟨v0, vs0, d0, ds0, p0, q0, hargs, rfl, rfl, h0, r0⟩ := trodAll_cons hA
  obtain ⟨v1, vs1, d1, ds1, p1, q1, rfl, rfl, rfl, h1, r1⟩ := trodAll_cons r0
  obtain ⟨rfl, rfl, rfl⟩ := trodAll_nil r1
  obtain rfl : args = #[v0, v1] := Array.toList_inj.1 hargs
  obtain ⟨x0, w0, u0⟩ := open_u8s (hval 0 26 v0 rfl rfl) h0
  obtain ⟨x1, w1, u1⟩ := open_u8s (hval 1 26 v1 rfl rfl) h1
  exact parts_walk v0 x0 v1 x1 W (errT_of_laid g.laid) w0 u0 w1 u1

theorem wireParts_row : Rows.WirePartsSaid :=
  OpenClaim.holds_of_wide 7 Tryd.f7 rfl rfl rfl rfl rfl rfl rfl ⟨rfl, rfl, rfl, rfl, rfl⟩ rfl rfl rfl rfl rfl (by kernel_rfl) Tryd.func7 (by kernel_rfl)
    (of_decide_eq_true (by kernel_rfl)) (by unfold Func.isWrapper; rw [if_neg (of_decide_eq_false (by kernel_rfl))]; exact ⟨rfl, rfl⟩)
    (fun os started H enc _ => law_lifted (s := Rows.wirePartsSpec) (L := laidAll) Tryd.func7 (by kernel_rfl) rfl (by kernel_rfl)
      (fun H ds hl => by
        rw [Tryd.params7] at hl
        match ds, hl with
        | [_, _], _ => exact ⟨rfl, rfl, rfl⟩)
      (by kernel_rfl) os started H enc
      (ChangeSpec.witness_at (enc := enc) (C := Tryd.checked) (os := os) (X := fun w _ => laidMetH Tryd.prog laidAll w) false (laidWorld os) #[.slice none 0 0, .slice none 0 0] 8 rfl (by kernel_rfl) (by kernel_rfl) (by kernel_rfl) (by kernel_rfl) (by kernel_rfl) (laidWorld_met os _))
      wireParts_walks)

theorem wireParts_card : Rows.WirePartsCardSaid :=
  Claim7.holds_tied_plain_at .later [] laidKindsAll true (Rows.wirePartsCard.stood.harness) true
    wireParts_row (fun _ h => by cases h) (by kernel_rfl) (fun _ h => by cases h) wireParts_row_tie rfl ⟨rfl, rfl⟩ (by kernel_rfl) rfl
    (fun f fn hf hfn => by
      obtain rfl : f = 7 := Option.some.inj ((show Tryd.prog.funcNamed "roundsman/roundsmanlaw4.WireParts" = some 7 by kernel_rfl).symm.trans hf) |>.symm
      obtain rfl : fn = Tryd.f7 := (Option.some.inj (Tryd.func7.symm.trans hfn)).symm
      exact ⟨by kernel_rfl, fun j t ht => by
        rw [Tryd.params7] at ht
        exact stand_all #[26, 26] (by kernel_rfl) j t ht⟩)
    (by kernel_rfl)
#print axioms wireParts_card

end Go.Proofs.YtjicekblfpgkdaaDoor
