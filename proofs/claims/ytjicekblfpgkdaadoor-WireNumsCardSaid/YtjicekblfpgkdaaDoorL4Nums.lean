/-
  PROVED: any numbers in bytes, one behind the other: read they are these, and nothing is left; cut off anywhere they end too early. For every two rows of numbers, and every place. Conditions: the listed library variable holds what the program's own text lays (the card ties it).
-/
import Derived.Test.YtjicekblfpgkdaaDoorKnown4
import Derived.Test.YtjicekblfpgkdaaDoorLaid4
import Derived.Test.YtjicekblfpgkdaaDoorCards
import Derived.Test.YtjicekblfpgkdaaDoorTie
import Derived.SevenTiedAt
import Derived.Test.YtjicekblfpgkdaaDoorW4N
namespace Go.Proofs.YtjicekblfpgkdaaDoor
open Go.ChangeShapes Go.WideShapes Go.ChangeAt Go.RowKit

set_option maxHeartbeats 8000000 in
set_option maxRecDepth 100000 in
theorem nums_long (v u : Value) (l m : List Int) (T : Int) (w : World) (hg : ErrT w) (hv : NumsAt .u64 w v l) (hu : NumsAt .i64 w u m) (hl : ¬ l.length ≤ 30) :
    Calls Tryd.prog 3 #[v, u, .int .u16 T] w fun e w' => e = .returned (.bool true) ∧ Below w.heap.size w w' := by
  obtain ⟨p0, c0, rfl⟩ := hv.shape
  obtain ⟨p1, c1, rfl⟩ := hu.shape
  have d1 : decide ((30 : Int) < (l.length : Int)) = true := decide_eq_true (by omega)
  clear hl hv hu
  go_enter Tryd.func3, Tryd.ntmps3
  go_wp2_with fail
  have B_0 := Lib.hid (Below.refl w.heap.size w)
  have HG := Lib.hid hg
  clear hg
  refine (known4_any _ HG.out).mono ?_
  rintro ev w1 ⟨rfl, hb⟩
  have B_1 := Lib.hid (bOn B_0.out hb)
  clear hb B_0
  go_wp2_with fail
  go_ret
  exact ⟨rfl, B_1.out⟩

set_option maxHeartbeats 8000000 in
set_option maxRecDepth 100000 in
theorem nums_many (v u : Value) (l m : List Int) (T : Int) (w : World) (hg : ErrT w) (hv : NumsAt .u64 w v l) (hu : NumsAt .i64 w u m) (hl : l.length ≤ 30) (hm : ¬ m.length ≤ 30) :
    Calls Tryd.prog 3 #[v, u, .int .u16 T] w fun e w' => e = .returned (.bool true) ∧ Below w.heap.size w w' := by
  obtain ⟨p0, c0, rfl⟩ := hv.shape
  obtain ⟨p1, c1, rfl⟩ := hu.shape
  have d1 : decide ((30 : Int) < (l.length : Int)) = false := decide_eq_false (by omega)
  have d2 : decide ((30 : Int) < (m.length : Int)) = true := decide_eq_true (by omega)
  clear hl hm hv hu
  go_enter Tryd.func3, Tryd.ntmps3
  go_wp2_with fail
  have B_0 := Lib.hid (Below.refl w.heap.size w)
  have HG := Lib.hid hg
  clear hg
  refine (known4_any _ HG.out).mono ?_
  rintro ev w1 ⟨rfl, hb⟩
  have B_1 := Lib.hid (bOn B_0.out hb)
  clear hb B_0
  go_wp2_with fail
  go_ret
  exact ⟨rfl, B_1.out⟩

set_option maxHeartbeats 8000000 in
set_option maxRecDepth 100000 in
theorem nums_main (v u : Value) (l m : List Int) (T : Int) (w : World) (hg : ErrT w) (hv : NumsAt .u64 w v l) (hu : NumsAt .i64 w u m) (hvi : InU64 l) (hui : InI64 m) (hT : 0 ≤ T ∧ T ≤ 65535) (hl : l.length ≤ 30) (hm : m.length ≤ 30) :
    Calls Tryd.prog 3 #[v, u, .int .u16 T] w fun e w' => e = .returned (.bool true) ∧ Below w.heap.size w w' := by
  obtain ⟨p0, c0, rfl⟩ := hv.shape
  obtain ⟨p1, c1, rfl⟩ := hu.shape
  have d1 : decide ((30 : Int) < (l.length : Int)) = false := decide_eq_false (by omega)
  have d2 : decide ((30 : Int) < (m.length : Int)) = false := decide_eq_false (by omega)
  obtain ⟨q, HQ⟩ : ∃ q, Hid (QOf q l m) := ⟨_, Lib.hid (QOf.of hvi hui)⟩
  have hql := HQ.out.len
  have hel := encs_len q
  have HVI := Lib.hid hvi
  have HUI := Lib.hid hui
  have NL := Lib.hid hv
  have NM := Lib.hid hu
  have HE8 := Lib.hid (encs_in8 HQ.out.inn)
  clear hvi hui hv hu
  go_enter Tryd.func3, Tryd.ntmps3
  go_wp2_with fail
  have B_0 := Lib.hid (Below.refl w.heap.size w)
  have HG := Lib.hid hg
  clear hg
  refine (known4_any _ HG.out).mono ?_
  rintro ev w1 ⟨rfl, hb⟩
  have B_1 := Lib.hid (bOn B_0.out hb)
  clear hb B_0
  go_wp2_with fail
  go_loopw [7, 8] (fun s i wr => ∃ k : Nat, k ≤ l.length ∧ i = .int .i64 k ∧ Hid (OwnB w.heap.size wr s (encs (q.take k))) ∧ Hid (Below w.heap.size w wr)) (fun _ i _ => l.length - (intOf i).toNat)
  case atStart => exact ⟨0, Nat.zero_le _, rfl, Lib.hid (OwnB.nil _ _), B_1⟩
  case round =>
    obtain ⟨k, hk, rfl, HO, HB⟩ := hrel
    by_cases hlt : k < l.length
    · have hki : (k : Int) < l.length := by omega
      obtain ⟨xl, ol, rfl, g⟩ := NL.out.at k hlt
      obtain ⟨X, hX⟩ : ∃ X, l[k] = X := ⟨_, rfl⟩
      obtain ⟨x0, x1⟩ : 0 ≤ X ∧ X ≤ 18446744073709551615 := hX ▸ HVI.out _ (List.getElem_mem hlt)
      have hqk : k < q.length := by omega
      have hqx : q[k] = X := by rw [← hX]; exact HQ.out.fst k hlt hqk
      obtain ⟨Y, hY⟩ : ∃ Y, X = Y := ⟨_, rfl⟩
      have HY := Lib.hid hY
      have HX : Hid (enc Y = enc q[k]) := Lib.hid (by rw [hqx, hY])
      rw [hX] at g
      have G := Lib.hid g
      obtain ⟨TX, hTX⟩ : ∃ s, strOfNums (enc Y) = s := ⟨_, rfl⟩
      have KT := Lib.hid hTX
      have hyl := enc_len Y
      clear hX hqx hTX g hY
      go_wp2_with fail
      have hGS : Grows (fun w' => Below wr.heap.size wr w') := Grows.below wr
      refine' wp_growL _ (fun w' => Below wr.heap.size wr w') [[], [], [0, 1], [2], [3], [4], [], [], [6, 7], [8], [9], [10], [5, 11]] (Fact.lit _ :: Fact.lit _ :: Fact.lit _ :: Fact.lit _ :: Fact.prop _ _ :: Fact.lit _ :: Fact.lit _ :: Fact.lit _ :: Fact.lit _ :: Fact.lit _ :: Fact.prop _ _ :: Fact.lit _ :: Fact.lit _ :: []) (by kernel_rfl) rfl (by kernel_rfl) (Below.refl _ _).drew ?seqla
      case' seqla => skip
      (first | (refine' grow_skip rfl ?wt1 ?put1 ?next1; (case wt1 => rfl)) | (refine' grow_lit rfl ?wt1 ?run1 ?put1 ?next1; (case wt1 => rfl); (case run1 => (intro w' hS H; clear H; (have g := G.out w' (bOn HB.out hS)); clear hS; go_simp; first | done | exact rfl)))); (case put1 => (simp only [Act.put, List.setIfInBounds_toArray, List.set_cons_zero, List.set_cons_succ]; first | done | exact rfl)); (case' next1 => skip)
      (first | (refine' grow_skip rfl ?wt2 ?put2 ?next2; (case wt2 => rfl)) | (refine' grow_lit rfl ?wt2 ?run2 ?put2 ?next2; (case wt2 => rfl); (case run2 => (intro w' hS H; clear H; (have g := G.out w' (bOn HB.out hS)); clear hS; go_simp; first | done | exact rfl)))); (case put2 => (simp only [Act.put, List.setIfInBounds_toArray, List.set_cons_zero, List.set_cons_succ]; first | done | exact rfl)); (case' next2 => skip)
      (first | (refine' grow_skip rfl ?wt3 ?put3 ?next3; (case wt3 => rfl)) | (refine' grow_lit rfl ?wt3 ?run3 ?put3 ?next3; (case wt3 => rfl); (case run3 => (intro w' hS H; clear H; (have g := G.out w' (bOn HB.out hS)); clear hS; go_simp; first | done | exact rfl)))); (case put3 => (simp only [Act.put, List.setIfInBounds_toArray, List.set_cons_zero, List.set_cons_succ]; first | done | exact rfl)); (case' next3 => skip)
      (first | (refine' grow_skip rfl ?wt4 ?put4 ?next4; (case wt4 => rfl)) | (refine' grow_lit rfl ?wt4 ?run4 ?put4 ?next4; (case wt4 => rfl); (case run4 => (intro w' hS H; clear H; (have g := G.out w' (bOn HB.out hS)); clear hS; go_simp; first | done | exact rfl)))); (case put4 => (simp only [Act.put, List.setIfInBounds_toArray, List.set_cons_zero, List.set_cons_succ]; first | done | exact rfl)); (case' next4 => skip)
      (refine' grow_callP (p := fun v w => U8s w v (enc Y)) (hp := fun v w w' h hb => U8s.below h hb) rfl Tryd.func9 (by kernel_rfl) rfl hGS rfl ?wt19 ?run19 ?put19 ?next19; (case wt19 => rfl); (case run19 => (intro w' hS H; exact (wuint_any X w' x0 x1).mono (fun e w2 ⟨v, z, h1, h2, h3, h4⟩ => ⟨v, h1, ⟨z, HY.out ▸ h2⟩, h4⟩))); (case put19 => (intro v; simp only [Act.put, List.setIfInBounds_toArray, List.set_cons_zero, List.set_cons_succ]; first | done | exact rfl)); (case' next19 => intro v4))
      (refine' grow_lit rfl ?wtL1 ?runL1 ?putL1 ?nextL1; (case wtL1 => rfl); (case runL1 => (intro w' hS H; (have h3 : U8s w' v4 (enc Y) := H 4 (by decide)); (have q := text_of h3 KT.out); clear H hS; go_simp; first | done | exact rfl)); (case putL1 => (simp only [Act.put, List.setIfInBounds_toArray, List.set_cons_zero, List.set_cons_succ]; first | done | exact rfl)); (case' nextL1 => skip))
      (first | (refine' grow_skip rfl ?wt5 ?put5 ?next5; (case wt5 => rfl)) | (refine' grow_lit rfl ?wt5 ?run5 ?put5 ?next5; (case wt5 => rfl); (case run5 => (intro w' hS H; clear H; (have g := G.out w' (bOn HB.out hS)); clear hS; go_simp; first | done | exact rfl)))); (case put5 => (simp only [Act.put, List.setIfInBounds_toArray, List.set_cons_zero, List.set_cons_succ]; first | done | exact rfl)); (case' next5 => skip)
      (first | (refine' grow_skip rfl ?wt6 ?put6 ?next6; (case wt6 => rfl)) | (refine' grow_lit rfl ?wt6 ?run6 ?put6 ?next6; (case wt6 => rfl); (case run6 => (intro w' hS H; clear H; (have g := G.out w' (bOn HB.out hS)); clear hS; go_simp; first | done | exact rfl)))); (case put6 => (simp only [Act.put, List.setIfInBounds_toArray, List.set_cons_zero, List.set_cons_succ]; first | done | exact rfl)); (case' next6 => skip)
      (first | (refine' grow_skip rfl ?wt7 ?put7 ?next7; (case wt7 => rfl)) | (refine' grow_lit rfl ?wt7 ?run7 ?put7 ?next7; (case wt7 => rfl); (case run7 => (intro w' hS H; clear H; (have g := G.out w' (bOn HB.out hS)); clear hS; go_simp; first | done | exact rfl)))); (case put7 => (simp only [Act.put, List.setIfInBounds_toArray, List.set_cons_zero, List.set_cons_succ]; first | done | exact rfl)); (case' next7 => skip)
      (first | (refine' grow_skip rfl ?wt8 ?put8 ?next8; (case wt8 => rfl)) | (refine' grow_lit rfl ?wt8 ?run8 ?put8 ?next8; (case wt8 => rfl); (case run8 => (intro w' hS H; clear H; (have g := G.out w' (bOn HB.out hS)); clear hS; go_simp; first | done | exact rfl)))); (case put8 => (simp only [Act.put, List.setIfInBounds_toArray, List.set_cons_zero, List.set_cons_succ]; first | done | exact rfl)); (case' next8 => skip)
      (refine' grow_callP (p := fun v w => U8s w v (enc Y)) (hp := fun v w w' h hb => U8s.below h hb) rfl Tryd.func10 (by kernel_rfl) rfl hGS rfl ?wt20 ?run20 ?put20 ?next20; (case wt20 => rfl); (case run20 => (intro w' hS H; exact (ruint_any X w' x0 x1).mono (fun e w2 ⟨v, z, h1, h2, h3, h4⟩ => ⟨v, h1, ⟨z, HY.out ▸ h2⟩, h4⟩))); (case put20 => (intro v; simp only [Act.put, List.setIfInBounds_toArray, List.set_cons_zero, List.set_cons_succ]; first | done | exact rfl)); (case' next20 => intro v10))
      (refine' grow_lit rfl ?wtL2 ?runL2 ?putL2 ?nextL2; (case wtL2 => rfl); (case runL2 => (intro w' hS H; (have h3 : U8s w' v10 (enc Y) := H 10 (by decide)); (have q := text_of h3 KT.out); clear H hS; go_simp; first | done | exact rfl)); (case putL2 => (simp only [Act.put, List.setIfInBounds_toArray, List.set_cons_zero, List.set_cons_succ]; first | done | exact rfl)); (case' nextL2 => skip))
      (first | (refine' grow_skip rfl ?wt9 ?put9 ?next9; (case wt9 => rfl)) | (refine' grow_lit rfl ?wt9 ?run9 ?put9 ?next9; (case wt9 => rfl); (case run9 => (intro w' hS H; clear H; (have g := G.out w' (bOn HB.out hS)); clear hS; go_simp; first | done | exact rfl)))); (case put9 => (simp only [Act.put, List.setIfInBounds_toArray, List.set_cons_zero, List.set_cons_succ]; first | done | exact rfl)); (case' next9 => skip)
      intro w9 hb _
      have HO9 := Lib.hid (HO.out.below hb)
      have HB9 := Lib.hid (bOn HB.out hb)
      have g := G.out w9 HB9.out
      clear hb HO HB
      go_wp2_with fail
      refine (wuint_any X _ x0 x1).mono ?_
      rintro ev w10 ⟨v5, x5, rfl, h5, -, hb⟩
      rw [HY.out, HX.out] at h5
      have hB10 := bOn HB9.out hb
      have hq1 := encs_take_len q (k)
      have hq2 := enc_len q[k]
      obtain ⟨v6, w11, hr, ho, hbb⟩ := (HO9.out.below hb).app hB10.size ⟨x5, h5⟩ (by omega) (encs_step q (k) hqk)
      have HR := Lib.hid hr
      have HO := Lib.hid ho
      have HB := Lib.hid (hB10.trans hbb)
      clear hr ho hbb hb h5 HO9 HB9 hB10 hq1 hq2 g
      go_wp2_with (at_builtin; refine wpList_append_run (by rfl) _ _ _ rfl _ _ _ rfl rfl HR.out ?_)
      go_roundw
      case rel => exact ⟨k + 1, by omega, by go_num, HO, HB⟩
      case measure => simp [intOf]; omega
    · have hki : ¬ (k : Int) < l.length := by omega
      obtain rfl : k = l.length := by omega
      go_wp2_with fail
      go_loopw [7, 9] (fun s i wr => ∃ k : Nat, k ≤ m.length ∧ i = .int .i64 k ∧ Hid (OwnB w.heap.size wr s (encs (q.take (l.length + k)))) ∧ Hid (Below w.heap.size w wr)) (fun _ i _ => m.length - (intOf i).toNat)
      case atStart => exact ⟨0, Nat.zero_le _, rfl, HO, HB⟩
      case round =>
        clear HO HB
        obtain ⟨k, hk2, rfl, HO, HB⟩ := hrel
        by_cases hlt : k < m.length
        · have hki : (k : Int) < m.length := by omega
          obtain ⟨xl, ol, rfl, g⟩ := NM.out.at k hlt
          obtain ⟨X, hX⟩ : ∃ X, m[k] = X := ⟨_, rfl⟩
          obtain ⟨x0, x1⟩ : -9223372036854775808 ≤ X ∧ X ≤ 9223372036854775807 := hX ▸ HUI.out _ (List.getElem_mem hlt)
          have hqk : l.length + k < q.length := by omega
          have hqx : q[l.length + k] = foldZ X := by rw [← hX]; exact HQ.out.snd k hlt hqk
          obtain ⟨Y, hY⟩ : ∃ Y, foldZ X = Y := ⟨_, rfl⟩
          have HY := Lib.hid hY
          have HX : Hid (enc Y = enc q[l.length + k]) := Lib.hid (by rw [hqx, hY])
          rw [hX] at g
          have G := Lib.hid g
          obtain ⟨TX, hTX⟩ : ∃ s, strOfNums (enc Y) = s := ⟨_, rfl⟩
          have KT := Lib.hid hTX
          have hyl := enc_len Y
          clear hX hqx hTX g hY
          go_wp2_with fail
          have hGS : Grows (fun w' => Below wr.heap.size wr w') := Grows.below wr
          refine' wp_growL _ (fun w' => Below wr.heap.size wr w') [[], [], [0, 1], [2], [3], [4], [], [], [6, 7], [8], [9], [10], [5, 11]] (Fact.lit _ :: Fact.lit _ :: Fact.lit _ :: Fact.lit _ :: Fact.prop _ _ :: Fact.lit _ :: Fact.lit _ :: Fact.lit _ :: Fact.lit _ :: Fact.lit _ :: Fact.prop _ _ :: Fact.lit _ :: Fact.lit _ :: []) (by kernel_rfl) rfl (by kernel_rfl) (Below.refl _ _).drew ?seqlb
          case' seqlb => skip
          (first | (refine' grow_skip rfl ?wt10 ?put10 ?next10; (case wt10 => rfl)) | (refine' grow_lit rfl ?wt10 ?run10 ?put10 ?next10; (case wt10 => rfl); (case run10 => (intro w' hS H; clear H; (have g := G.out w' (bOn HB.out hS)); clear hS; go_simp; first | done | exact rfl)))); (case put10 => (simp only [Act.put, List.setIfInBounds_toArray, List.set_cons_zero, List.set_cons_succ]; first | done | exact rfl)); (case' next10 => skip)
          (first | (refine' grow_skip rfl ?wt11 ?put11 ?next11; (case wt11 => rfl)) | (refine' grow_lit rfl ?wt11 ?run11 ?put11 ?next11; (case wt11 => rfl); (case run11 => (intro w' hS H; clear H; (have g := G.out w' (bOn HB.out hS)); clear hS; go_simp; first | done | exact rfl)))); (case put11 => (simp only [Act.put, List.setIfInBounds_toArray, List.set_cons_zero, List.set_cons_succ]; first | done | exact rfl)); (case' next11 => skip)
          (first | (refine' grow_skip rfl ?wt12 ?put12 ?next12; (case wt12 => rfl)) | (refine' grow_lit rfl ?wt12 ?run12 ?put12 ?next12; (case wt12 => rfl); (case run12 => (intro w' hS H; clear H; (have g := G.out w' (bOn HB.out hS)); clear hS; go_simp; first | done | exact rfl)))); (case put12 => (simp only [Act.put, List.setIfInBounds_toArray, List.set_cons_zero, List.set_cons_succ]; first | done | exact rfl)); (case' next12 => skip)
          (first | (refine' grow_skip rfl ?wt13 ?put13 ?next13; (case wt13 => rfl)) | (refine' grow_lit rfl ?wt13 ?run13 ?put13 ?next13; (case wt13 => rfl); (case run13 => (intro w' hS H; clear H; (have g := G.out w' (bOn HB.out hS)); clear hS; go_simp; first | done | exact rfl)))); (case put13 => (simp only [Act.put, List.setIfInBounds_toArray, List.set_cons_zero, List.set_cons_succ]; first | done | exact rfl)); (case' next13 => skip)
          (refine' grow_callP (p := fun v w => U8s w v (enc Y)) (hp := fun v w w' h hb => U8s.below h hb) rfl Tryd.func11 (by kernel_rfl) rfl hGS rfl ?wt21 ?run21 ?put21 ?next21; (case wt21 => rfl); (case run21 => (intro w' hS H; exact (wint_any X w' x0 x1).mono (fun e w2 ⟨v, z, h1, h2, h3, h4⟩ => ⟨v, h1, ⟨z, HY.out ▸ h2⟩, h4⟩))); (case put21 => (intro v; simp only [Act.put, List.setIfInBounds_toArray, List.set_cons_zero, List.set_cons_succ]; first | done | exact rfl)); (case' next21 => intro v4))
          (refine' grow_lit rfl ?wtL3 ?runL3 ?putL3 ?nextL3; (case wtL3 => rfl); (case runL3 => (intro w' hS H; (have h3 : U8s w' v4 (enc Y) := H 4 (by decide)); (have q := text_of h3 KT.out); clear H hS; go_simp; first | done | exact rfl)); (case putL3 => (simp only [Act.put, List.setIfInBounds_toArray, List.set_cons_zero, List.set_cons_succ]; first | done | exact rfl)); (case' nextL3 => skip))
          (first | (refine' grow_skip rfl ?wt14 ?put14 ?next14; (case wt14 => rfl)) | (refine' grow_lit rfl ?wt14 ?run14 ?put14 ?next14; (case wt14 => rfl); (case run14 => (intro w' hS H; clear H; (have g := G.out w' (bOn HB.out hS)); clear hS; go_simp; first | done | exact rfl)))); (case put14 => (simp only [Act.put, List.setIfInBounds_toArray, List.set_cons_zero, List.set_cons_succ]; first | done | exact rfl)); (case' next14 => skip)
          (first | (refine' grow_skip rfl ?wt15 ?put15 ?next15; (case wt15 => rfl)) | (refine' grow_lit rfl ?wt15 ?run15 ?put15 ?next15; (case wt15 => rfl); (case run15 => (intro w' hS H; clear H; (have g := G.out w' (bOn HB.out hS)); clear hS; go_simp; first | done | exact rfl)))); (case put15 => (simp only [Act.put, List.setIfInBounds_toArray, List.set_cons_zero, List.set_cons_succ]; first | done | exact rfl)); (case' next15 => skip)
          (first | (refine' grow_skip rfl ?wt16 ?put16 ?next16; (case wt16 => rfl)) | (refine' grow_lit rfl ?wt16 ?run16 ?put16 ?next16; (case wt16 => rfl); (case run16 => (intro w' hS H; clear H; (have g := G.out w' (bOn HB.out hS)); clear hS; go_simp; first | done | exact rfl)))); (case put16 => (simp only [Act.put, List.setIfInBounds_toArray, List.set_cons_zero, List.set_cons_succ]; first | done | exact rfl)); (case' next16 => skip)
          (first | (refine' grow_skip rfl ?wt17 ?put17 ?next17; (case wt17 => rfl)) | (refine' grow_lit rfl ?wt17 ?run17 ?put17 ?next17; (case wt17 => rfl); (case run17 => (intro w' hS H; clear H; (have g := G.out w' (bOn HB.out hS)); clear hS; go_simp; first | done | exact rfl)))); (case put17 => (simp only [Act.put, List.setIfInBounds_toArray, List.set_cons_zero, List.set_cons_succ]; first | done | exact rfl)); (case' next17 => skip)
          (refine' grow_callP (p := fun v w => U8s w v (enc Y)) (hp := fun v w w' h hb => U8s.below h hb) rfl Tryd.func12 (by kernel_rfl) rfl hGS rfl ?wt22 ?run22 ?put22 ?next22; (case wt22 => rfl); (case run22 => (intro w' hS H; exact (rint_any X w' x0 x1).mono (fun e w2 ⟨v, z, h1, h2, h3, h4⟩ => ⟨v, h1, ⟨z, HY.out ▸ h2⟩, h4⟩))); (case put22 => (intro v; simp only [Act.put, List.setIfInBounds_toArray, List.set_cons_zero, List.set_cons_succ]; first | done | exact rfl)); (case' next22 => intro v10))
          (refine' grow_lit rfl ?wtL4 ?runL4 ?putL4 ?nextL4; (case wtL4 => rfl); (case runL4 => (intro w' hS H; (have h3 : U8s w' v10 (enc Y) := H 10 (by decide)); (have q := text_of h3 KT.out); clear H hS; go_simp; first | done | exact rfl)); (case putL4 => (simp only [Act.put, List.setIfInBounds_toArray, List.set_cons_zero, List.set_cons_succ]; first | done | exact rfl)); (case' nextL4 => skip))
          (first | (refine' grow_skip rfl ?wt18 ?put18 ?next18; (case wt18 => rfl)) | (refine' grow_lit rfl ?wt18 ?run18 ?put18 ?next18; (case wt18 => rfl); (case run18 => (intro w' hS H; clear H; (have g := G.out w' (bOn HB.out hS)); clear hS; go_simp; first | done | exact rfl)))); (case put18 => (simp only [Act.put, List.setIfInBounds_toArray, List.set_cons_zero, List.set_cons_succ]; first | done | exact rfl)); (case' next18 => skip)
          intro w9 hb _
          have HO9 := Lib.hid (HO.out.below hb)
          have HB9 := Lib.hid (bOn HB.out hb)
          have g := G.out w9 HB9.out
          clear hb HO HB
          go_wp2_with fail
          refine (wint_any X _ x0 x1).mono ?_
          rintro ev w10 ⟨v5, x5, rfl, h5, -, hb⟩
          rw [HY.out, HX.out] at h5
          have hB10 := bOn HB9.out hb
          have hq1 := encs_take_len q (l.length + k)
          have hq2 := enc_len q[l.length + k]
          obtain ⟨v6, w11, hr, ho, hbb⟩ := (HO9.out.below hb).app hB10.size ⟨x5, h5⟩ (by omega) (encs_step q (l.length + k) hqk)
          have HR := Lib.hid hr
          have HO := Lib.hid ho
          have HB := Lib.hid (hB10.trans hbb)
          clear hr ho hbb hb h5 HO9 HB9 hB10 hq1 hq2 g
          go_wp2_with (at_builtin; refine wpList_append_run (by rfl) _ _ _ rfl _ _ _ rfl rfl HR.out ?_)
          go_roundw
          case rel => exact ⟨k + 1, by omega, by go_num, HO, HB⟩
          case measure => simp [intOf]; omega
        · have hki2 : ¬ (k : Int) < m.length := by omega
          obtain rfl : k = m.length := by omega
          rw [show q.take (l.length + m.length) = q by rw [← hql, List.take_length]] at HO
          obtain ⟨qb, cb, rfl⟩ := HO.out.shape
          go_wp2_with fail
          refine (new_any _ (encs q) _ (HO.out.u8s (by omega)) HE8.out (by omega)).mono ?_
          rintro ev w4 ⟨b, rfl, hr, hb⟩
          obtain ⟨N, hN⟩ : ∃ N, N = wr.heap.size := ⟨_, rfl⟩
          have hOB := OldB.of (HO.out.u8s (by omega))
          rw [← hN] at hr hOB
          have zN : N ≤ b := hr.lt.1
          have zb : w.heap.size ≤ b := by have h1 := HB.out.size; omega
          have R4 := Lib.hid hr
          have B4 := Lib.hid (bOn HB.out hb)
          have O4 := Lib.hid (hOB.below hb)
          have hcb : (encs q).length ≤ cb := hOB.cap.2
          clear hr hb HO HB hOB hN
          go_wp2_with fail
          go_loopw [11] (fun i wr => ∃ k : Nat, k ≤ l.length ∧ i = .int .i64 k ∧ Hid (RdV wr N b (encs q) (encs (q.take k)).length 0) ∧ Hid (OldB N wr (.slice qb (encs q).length cb) (encs q)) ∧ Hid (Below w.heap.size w wr)) (fun i _ => l.length - (intOf i).toNat)
          case atStart => exact ⟨0, Nat.zero_le _, rfl, R4, O4, B4⟩
          case round =>
            clear R4 O4 B4
            obtain ⟨k, hk3, rfl, HR, HO, HB⟩ := hrel
            by_cases hlt : k < l.length
            · have hki : (k : Int) < l.length := by omega
              obtain ⟨xl, ol, rfl, g⟩ := NL.out.at k hlt
              obtain ⟨X, hX⟩ : ∃ X, l[k] = X := ⟨_, rfl⟩
              obtain ⟨x0, x1⟩ : 0 ≤ X ∧ X ≤ 18446744073709551615 := hX ▸ HVI.out _ (List.getElem_mem hlt)
              have hqk : k < q.length := by omega
              have hqx : q[k] = X := by rw [← hX]; exact HQ.out.fst k hlt hqk
              have HUR := Lib.hid (uintR_encs HQ.out.inn hqk hqx (Int.le_refl _))
              rw [hX] at g
              have G := Lib.hid g
              clear hX hqx g
              go_wp2_with fail
              refine' wp_stageL _ (ReadSt 5 N b N (encs q) (encs (q.take (k))).length (encs (q.take (k + 1))).length w (.slice qb (encs q).length cb)) [[], [], [], [1, 2], [1, 2, 3], [0, 1, 2, 3, 4], [], [], [6, 7], [6, 7, 8], [0, 1, 2, 3, 4, 5, 6, 7, 8, 9]] (Fact.lit _ :: Fact.lit _ :: Fact.lit _ :: Fact.lit _ :: Fact.lit _ :: Fact.lit _ :: Fact.lit _ :: Fact.lit _ :: Fact.lit _ :: Fact.lit _ :: Fact.lit _ :: []) ((Lits.cons _ (Lits.cons _ (Lits.cons _ (Lits.cons _ (Lits.cons _ (Lits.cons _ (Lits.cons _ (Lits.cons _ (Lits.cons _ (Lits.cons _ (Lits.cons _ Lits.nil)))))))))))) (by kernel_rfl) rfl (by kernel_rfl) (ReadSt.start HR.out HB.out HO.out) ?stglc
              case' stglc => skip
              (refine' st_lit rfl ?wtlc0 ?stlc0 ?runlc0 ?putlc0 ?nextlc0; (case wtlc0 => rfl); (case stlc0 => (intro l w' h; exact h.step (by decide))); (case runlc0 => (intro l w' hS; (have g := G.out w' hS.below); clear hS; go_simp; first | done | exact rfl)); (case putlc0 => (simp only [Act.put, List.setIfInBounds_toArray, List.set_cons_zero, List.set_cons_succ]; first | done | exact rfl)); (case' nextlc0 => skip))
              (refine' st_lit rfl ?wtlc1 ?stlc1 ?runlc1 ?putlc1 ?nextlc1; (case wtlc1 => rfl); (case stlc1 => (intro l w' h; exact h.step (by decide))); (case runlc1 => (intro l w' hS; (have g := G.out w' hS.below); clear hS; go_simp; first | done | exact rfl)); (case putlc1 => (simp only [Act.put, List.setIfInBounds_toArray, List.set_cons_zero, List.set_cons_succ]; first | done | exact rfl)); (case' nextlc1 => skip))
              (refine' st_lit rfl ?wtlc2 ?stlc2 ?runlc2 ?putlc2 ?nextlc2; (case wtlc2 => rfl); (case stlc2 => (intro l w' h; exact h.step (by decide))); (case runlc2 => (intro l w' hS; (have g := G.out w' hS.below); clear hS; go_simp; first | done | exact rfl)); (case putlc2 => (simp only [Act.put, List.setIfInBounds_toArray, List.set_cons_zero, List.set_cons_succ]; first | done | exact rfl)); (case' nextlc2 => skip))
              (refine' st_lit rfl ?wtlc3 ?stlc3 ?runlc3 ?putlc3 ?nextlc3; (case wtlc3 => rfl); (case stlc3 => (intro l w' h; exact h.step (by decide))); (case runlc3 => (intro l w' hS; (have g := G.out w' hS.below); clear hS; go_simp; first | done | exact rfl)); (case putlc3 => (simp only [Act.put, List.setIfInBounds_toArray, List.set_cons_zero, List.set_cons_succ]; first | done | exact rfl)); (case' nextlc3 => skip))
              (refine' st_lit rfl ?wtlc4 ?stlc4 ?runlc4 ?putlc4 ?nextlc4; (case wtlc4 => rfl); (case stlc4 => (intro l w' h; exact h.step (by decide))); (case runlc4 => (intro l w' hS; (have g := G.out w' hS.below); clear hS; go_simp; first | done | exact rfl)); (case putlc4 => (simp only [Act.put, List.setIfInBounds_toArray, List.set_cons_zero, List.set_cons_succ]; first | done | exact rfl)); (case' nextlc4 => skip))
              (refine' st_call (u := .int .u64 X) rfl Tryd.func14 (by kernel_rfl) rfl rfl ?wtlc5 ?runlc5 ?putlc5 ?nextlc5; (case wtlc5 => rfl); (case runlc5 => (intro l w' hS hi hk; exact (vU (hS.old hi) HUR.out).mono (fun ev w2 h => ⟨h.1, hS.call h.2.1 h.2.2 zb zN⟩))); (case putlc5 => (simp only [Act.put, List.setIfInBounds_toArray, List.set_cons_zero, List.set_cons_succ]; first | done | exact rfl)); (case' nextlc5 => skip))
              (refine' st_lit rfl ?wtlc6 ?stlc6 ?runlc6 ?putlc6 ?nextlc6; (case wtlc6 => rfl); (case stlc6 => (intro l w' h; exact h.step (by decide))); (case runlc6 => (intro l w' hS; (have g := G.out w' hS.below); clear hS; go_simp; first | done | exact rfl)); (case putlc6 => (simp only [Act.put, List.setIfInBounds_toArray, List.set_cons_zero, List.set_cons_succ]; first | done | exact rfl)); (case' nextlc6 => skip))
              (refine' st_lit rfl ?wtlc7 ?stlc7 ?runlc7 ?putlc7 ?nextlc7; (case wtlc7 => rfl); (case stlc7 => (intro l w' h; exact h.step (by decide))); (case runlc7 => (intro l w' hS; (have g := G.out w' hS.below); clear hS; go_simp; first | done | exact rfl)); (case putlc7 => (simp only [Act.put, List.setIfInBounds_toArray, List.set_cons_zero, List.set_cons_succ]; first | done | exact rfl)); (case' nextlc7 => skip))
              (refine' st_lit rfl ?wtlc8 ?stlc8 ?runlc8 ?putlc8 ?nextlc8; (case wtlc8 => rfl); (case stlc8 => (intro l w' h; exact h.step (by decide))); (case runlc8 => (intro l w' hS; (have g := G.out w' hS.below); clear hS; go_simp; first | done | exact rfl)); (case putlc8 => (simp only [Act.put, List.setIfInBounds_toArray, List.set_cons_zero, List.set_cons_succ]; first | done | exact rfl)); (case' nextlc8 => skip))
              (refine' st_lit rfl ?wtlc9 ?stlc9 ?runlc9 ?putlc9 ?nextlc9; (case wtlc9 => rfl); (case stlc9 => (intro l w' h; exact h.step (by decide))); (case runlc9 => (intro l w' hS; (have g := G.out w' hS.below); clear hS; go_simp; first | done | exact rfl)); (case putlc9 => (simp only [Act.put, List.setIfInBounds_toArray, List.set_cons_zero, List.set_cons_succ]; first | done | exact rfl)); (case' nextlc9 => skip))
              (refine' st_lit rfl ?wtlc10 ?stlc10 ?runlc10 ?putlc10 ?nextlc10; (case wtlc10 => rfl); (case stlc10 => (intro l w' h; exact h.step (by decide))); (case runlc10 => (intro l w' hS; (have g := G.out w' hS.below); clear hS; go_simp; first | done | exact rfl)); (case putlc10 => (simp only [Act.put, List.setIfInBounds_toArray, List.set_cons_zero, List.set_cons_succ]; first | done | exact rfl)); (case' nextlc10 => skip))
              intro dn w9 hS hkk
              have R9 := Lib.hid (hS.new (hkk 5 (by decide)))
              have B9 := Lib.hid hS.below
              have O9 := Lib.hid hS.row
              clear hS HR HB HO hkk
              go_wp2_with fail
              go_roundw
              case rel => exact ⟨k + 1, by omega, by go_num, R9, O9, B9⟩
              case measure => simp [intOf]; omega
            · have hki3 : ¬ (k : Int) < l.length := by omega
              obtain rfl : k = l.length := by omega
              go_wp2_with fail
              go_loopw [12] (fun i wr => ∃ k : Nat, k ≤ m.length ∧ i = .int .i64 k ∧ Hid (RdV wr N b (encs q) (encs (q.take (l.length + k))).length 0) ∧ Hid (OldB N wr (.slice qb (encs q).length cb) (encs q)) ∧ Hid (Below w.heap.size w wr)) (fun i _ => m.length - (intOf i).toNat)
              case atStart => exact ⟨0, Nat.zero_le _, rfl, HR, HO, HB⟩
              case round =>
                clear HR HO HB
                obtain ⟨k, hk4, rfl, HR, HO, HB⟩ := hrel
                by_cases hlt : k < m.length
                · have hki : (k : Int) < m.length := by omega
                  obtain ⟨xl, ol, rfl, g⟩ := NM.out.at k hlt
                  obtain ⟨X, hX⟩ : ∃ X, m[k] = X := ⟨_, rfl⟩
                  obtain ⟨x0, x1⟩ : -9223372036854775808 ≤ X ∧ X ≤ 9223372036854775807 := hX ▸ HUI.out _ (List.getElem_mem hlt)
                  have hqk : l.length + k < q.length := by omega
                  have hqx : q[l.length + k] = foldZ X := by rw [← hX]; exact HQ.out.snd k hlt hqk
                  have HUR := Lib.hid (intR_encs HQ.out.inn hqk hqx x0 x1)
                  rw [hX] at g
                  have G := Lib.hid g
                  clear hX hqx g
                  go_wp2_with fail
                  refine' wp_stageL _ (ReadSt 1 N b N (encs q) (encs (q.take (l.length + k))).length (encs (q.take (l.length + k + 1))).length w (.slice qb (encs q).length cb)) [[], [0], [], [], [2, 3], [2, 3, 4], [0, 1, 2, 3, 4, 5]] (Fact.lit _ :: Fact.lit _ :: Fact.lit _ :: Fact.lit _ :: Fact.lit _ :: Fact.lit _ :: Fact.lit _ :: []) ((Lits.cons _ (Lits.cons _ (Lits.cons _ (Lits.cons _ (Lits.cons _ (Lits.cons _ (Lits.cons _ Lits.nil)))))))) (by kernel_rfl) rfl (by kernel_rfl) (ReadSt.start HR.out HB.out HO.out) ?stgld
                  case' stgld => skip
                  (refine' st_lit rfl ?wtld0 ?stld0 ?runld0 ?putld0 ?nextld0; (case wtld0 => rfl); (case stld0 => (intro l w' h; exact h.step (by decide))); (case runld0 => (intro l w' hS; (have g := G.out w' hS.below); clear hS; go_simp; first | done | exact rfl)); (case putld0 => (simp only [Act.put, List.setIfInBounds_toArray, List.set_cons_zero, List.set_cons_succ]; first | done | exact rfl)); (case' nextld0 => skip))
                  (refine' st_call (u := .int .i64 X) rfl Tryd.func15 (by kernel_rfl) rfl rfl ?wtld1 ?runld1 ?putld1 ?nextld1; (case wtld1 => rfl); (case runld1 => (intro l w' hS hi hk; exact (vI (hS.old hi) HUR.out).mono (fun ev w2 h => ⟨h.1, hS.call h.2.1 h.2.2 zb zN⟩))); (case putld1 => (simp only [Act.put, List.setIfInBounds_toArray, List.set_cons_zero, List.set_cons_succ]; first | done | exact rfl)); (case' nextld1 => skip))
                  (refine' st_lit rfl ?wtld2 ?stld2 ?runld2 ?putld2 ?nextld2; (case wtld2 => rfl); (case stld2 => (intro l w' h; exact h.step (by decide))); (case runld2 => (intro l w' hS; (have g := G.out w' hS.below); clear hS; go_simp; first | done | exact rfl)); (case putld2 => (simp only [Act.put, List.setIfInBounds_toArray, List.set_cons_zero, List.set_cons_succ]; first | done | exact rfl)); (case' nextld2 => skip))
                  (refine' st_lit rfl ?wtld3 ?stld3 ?runld3 ?putld3 ?nextld3; (case wtld3 => rfl); (case stld3 => (intro l w' h; exact h.step (by decide))); (case runld3 => (intro l w' hS; (have g := G.out w' hS.below); clear hS; go_simp; first | done | exact rfl)); (case putld3 => (simp only [Act.put, List.setIfInBounds_toArray, List.set_cons_zero, List.set_cons_succ]; first | done | exact rfl)); (case' nextld3 => skip))
                  (refine' st_lit rfl ?wtld4 ?stld4 ?runld4 ?putld4 ?nextld4; (case wtld4 => rfl); (case stld4 => (intro l w' h; exact h.step (by decide))); (case runld4 => (intro l w' hS; (have g := G.out w' hS.below); clear hS; go_simp; first | done | exact rfl)); (case putld4 => (simp only [Act.put, List.setIfInBounds_toArray, List.set_cons_zero, List.set_cons_succ]; first | done | exact rfl)); (case' nextld4 => skip))
                  (refine' st_lit rfl ?wtld5 ?stld5 ?runld5 ?putld5 ?nextld5; (case wtld5 => rfl); (case stld5 => (intro l w' h; exact h.step (by decide))); (case runld5 => (intro l w' hS; (have g := G.out w' hS.below); clear hS; go_simp; first | done | exact rfl)); (case putld5 => (simp only [Act.put, List.setIfInBounds_toArray, List.set_cons_zero, List.set_cons_succ]; first | done | exact rfl)); (case' nextld5 => skip))
                  (refine' st_lit rfl ?wtld6 ?stld6 ?runld6 ?putld6 ?nextld6; (case wtld6 => rfl); (case stld6 => (intro l w' h; exact h.step (by decide))); (case runld6 => (intro l w' hS; (have g := G.out w' hS.below); clear hS; go_simp; first | done | exact rfl)); (case putld6 => (simp only [Act.put, List.setIfInBounds_toArray, List.set_cons_zero, List.set_cons_succ]; first | done | exact rfl)); (case' nextld6 => skip))
                  intro dn w9 hS hkk
                  have R9 := Lib.hid (hS.new (hkk 1 (by decide)))
                  have B9 := Lib.hid hS.below
                  have O9 := Lib.hid hS.row
                  clear hS HR HB HO hkk
                  go_wp2_with fail
                  go_roundw
                  case rel => exact ⟨k + 1, by omega, by go_num, R9, O9, B9⟩
                  case measure => simp [intOf]; omega
                · have hki4 : ¬ (k : Int) < m.length := by omega
                  obtain rfl : k = m.length := by omega
                  rw [show q.take (l.length + m.length) = q by rw [← hql, List.take_length]] at HR
                  go_wp2_with fail
                  refine (vDone0 HR.out (Nat.lt_irrefl _)).mono ?_
                  rintro ev w5 ⟨rfl, hb⟩
                  have R5 := Lib.hid (HR.out.below hb)
                  have O5 := Lib.hid (HO.out.below hb)
                  have B5 := Lib.hid (bOn HB.out hb)
                  clear hb HR HO HB
                  go_wp2_with fail
                  refine (vAt R5.out).mono ?_
                  rintro ev w6 ⟨rfl, hb⟩
                  have O6 := Lib.hid (O5.out.below hb)
                  have B6 := Lib.hid (bOn B5.out hb)
                  clear hb R5 O5 B5
                  by_cases hz : (encs q).length = 0
                  · have d5 : (((encs q).length : Int) == 0) = true := by simp [hz]
                    clear hz
                    go_wp2_with fail
                    go_ret
                    exact ⟨rfl, B6.out⟩
                  · have d5 : (((encs q).length : Int) == 0) = false := beq_eq_false_iff_ne.2 (by omega)
                    have d6 : ¬ ((encs q).length : Int) = 0 := by omega
                    have h1 : 0 ≤ T.tmod ((encs q).length : Int) := Int.tmod_nonneg _ hT.1
                    have h2 : T.tmod ((encs q).length : Int) < ((encs q).length : Int) := Int.tmod_lt_of_pos _ (by omega)
                    obtain ⟨n, hn⟩ : ∃ n : Nat, T.tmod ((encs q).length : Int) = n := ⟨(T.tmod ((encs q).length : Int)).toNat, by omega⟩
                    have hn1 : n < (encs q).length := by omega
                    have hn2 : n ≤ cb := by omega
                    clear h1 h2
                    go_wp2_with fail
                    refine (new_any _ ((encs q).take n) _ (O6.out.take n (by omega)) (HE8.out.take n) (by rw [List.length_take]; omega)).mono ?_
                    rintro ev w7 ⟨c, rfl, hr, hb⟩
                    have zc : w.heap.size ≤ c := by have h1 := hr.lt; have h2 := B6.out.size; omega
                    obtain ⟨N7, hN7⟩ : ∃ N, N = w6.heap.size := ⟨_, rfl⟩
                    rw [← hN7] at hr
                    have R7 := Lib.hid hr
                    have B7 := Lib.hid (bOn B6.out hb)
                    clear hr hb O6 B6 hN7
                    go_wp2_with fail
                    go_loopw [14] (fun i wr => ∃ (k a : Nat) (e : Int), k ≤ q.length ∧ i = .int .i64 k ∧ Hid (RdV wr N7 c ((encs q).take n) a e) ∧ Hid (CutAt q n k a e) ∧ Hid (Below w.heap.size w wr)) (fun i _ => q.length - (intOf i).toNat)
                    case atStart => exact ⟨0, 0, 0, Nat.zero_le _, rfl, R7, Lib.hid (CutAt.zero _ _), B7⟩
                    case round =>
                      clear R7 B7
                      obtain ⟨k, a, e, hk5, rfl, HR, HC, HB⟩ := hrel
                      by_cases hlt : k < q.length
                      · have hki : (k : Int) < (l.length : Int) + (m.length : Int) := by omega
                        have HC2 := Lib.hid (HC.out.step HQ.out.inn hlt)
                        go_wp2_with fail
                        refine (vU HR.out rfl).mono ?_
                        rintro ev w8 ⟨rfl, hr, hb⟩
                        have HR2 := Lib.hid hr
                        have HB2 := Lib.hid (bOnB HB.out hb zc)
                        clear hr hb HR HC HB
                        go_wp2_with fail
                        go_roundw
                        case rel => exact ⟨k + 1, _, _, by omega, by go_num, HR2, HC2, HB2⟩
                        case measure => simp [intOf]; omega
                      · have hki : ¬ (k : Int) < (l.length : Int) + (m.length : Int) := by omega
                        obtain rfl : k = q.length := by omega
                        obtain rfl : e = 3 := HC.out.fin hn1
                        clear HC
                        go_wp2_with fail
                        refine (vErr HR.out (by decide)).mono ?_
                        rintro ev w8 ⟨v8, rfl, ⟨h8, k8, rfl⟩, hb⟩
                        have E8 : Hid (FltAt w8 _ a 3) := Lib.hid ⟨h8, k8, rfl⟩
                        have R8 := Lib.hid (HR.out.below hb)
                        have B8 := Lib.hid (bOn HB.out hb)
                        clear hb HR HB h8
                        go_wp2_with fail
                        refine (vAt R8.out).mono ?_
                        rintro ev w9 ⟨rfl, hb⟩
                        have E9 := Lib.hid (E8.out.below hb)
                        have B9 := Lib.hid (bOn B8.out hb)
                        clear hb R8 E8 B8
                        go_wp2_with fail
                        refine (vAt6 a 3 _).mono ?_
                        rintro ev w10 ⟨v10, rfl, h10, hb⟩
                        have U10 := Lib.hid h10
                        have E10 := Lib.hid (E9.out.below hb)
                        have B10 := Lib.hid (bOn B9.out hb)
                        clear hb h10 E9 B9
                        go_wp2_with fail
                        refine (vTells (HG.out.old B10.out) E10.out U10.out (by decide)).mono ?_
                        rintro ev w11 ⟨rfl, hb⟩
                        have B11 := Lib.hid (bOn B10.out hb)
                        clear hb U10 E10 B10
                        go_wp2_with fail
                        go_ret
                        exact ⟨rfl, B11.out⟩

theorem nums_walk (v : Value) (l : List Int) (u : Value) (m : List Int) (T : Int) (w : World) (hg : ErrT w) (hv : NumsAt .u64 w v l) (hvi : InU64 l) (hu : NumsAt .i64 w u m) (hui : InI64 m) (hT0 : 0 ≤ T) (hT1 : T ≤ 65535) :
    Calls Tryd.prog 3 #[v, u, .int .u16 T] w fun e w' => e = .returned (.bool true) ∧ Below w.heap.size w w' := by
  by_cases hl : l.length ≤ 30
  · by_cases hm : m.length ≤ 30
    · exact nums_main v u l m T w hg hv hu hvi hui ⟨hT0, hT1⟩ hl hm
    · exact nums_many v u l m T w hg hv hu hl hm
  · exact nums_long v u l m T w hg hv hu hl

set_option maxRecDepth 100000 in
theorem wireNums_walks : Walks laidAll 3 Tryd.f3 := by
  intro H enc W args ds g
  obtain ⟨ps, hA⟩ := g.reads
  obtain ⟨base, hval⟩ := g.okay
  rw [Tryd.params3] at hA hval
  obtain ⟨v0, vs0, d0, ds0, p0, q0, hargs, rfl, rfl, h0, r0⟩ := trodAll_cons hA
  obtain ⟨v1, vs1, d1, ds1, p1, q1, rfl, rfl, rfl, h1, r1⟩ := trodAll_cons r0
  obtain ⟨v2, vs2, d2, ds2, p2, q2, rfl, rfl, rfl, h2, r2⟩ := trodAll_cons r1
  obtain ⟨rfl, rfl, rfl⟩ := trodAll_nil r2
  obtain rfl : args = #[v0, v1, v2] := Array.toList_inj.1 hargs
  obtain ⟨x0, w0, u0⟩ := open_u64s (hval 0 22 v0 rfl rfl) h0
  obtain ⟨x1, w1, u1⟩ := open_i64sq (hval 1 23 v1 rfl rfl) h1
  obtain ⟨x2, rfl, rfl, rfl, w2⟩ := open_int Tryd.underlying24 (hval 2 24 v2 rfl rfl) h2
  exact nums_walk v0 x0 v1 x1 x2 W (errT_of_laid g.laid) w0 u0 w1 u1 (wfq16 w2).1 (wfq16 w2).2

theorem wireNums_row : Rows.WireNumsSaid :=
  OpenClaim.holds_of_wide 3 Tryd.f3 rfl rfl rfl rfl rfl rfl rfl ⟨rfl, rfl, rfl, rfl, rfl⟩ rfl rfl rfl rfl rfl (by kernel_rfl) Tryd.func3 (by kernel_rfl)
    (of_decide_eq_true (by kernel_rfl)) (by unfold Func.isWrapper; rw [if_neg (of_decide_eq_false (by kernel_rfl))]; exact ⟨rfl, rfl⟩)
    (fun os started H enc _ => law_lifted (s := Rows.wireNumsSpec) (L := laidAll) Tryd.func3 (by kernel_rfl) rfl (by kernel_rfl)
      (fun H ds hl => by
        rw [Tryd.params3] at hl
        match ds, hl with
        | [_, _, _], _ => exact ⟨rfl, rfl, rfl⟩)
      (by kernel_rfl) os started H enc
      (ChangeSpec.witness_at (enc := enc) (C := Tryd.checked) (os := os) (X := fun w _ => laidMetH Tryd.prog laidAll w) false (laidWorld os) #[.slice none 0 0, .slice none 0 0, .int .u16 0] 8 rfl (by kernel_rfl) (by kernel_rfl) (by kernel_rfl) (by kernel_rfl) (by kernel_rfl) (laidWorld_met os _))
      wireNums_walks)

theorem wireNums_card : Rows.WireNumsCardSaid :=
  Claim7.holds_tied_plain_at .later [] laidKindsAll true (Rows.wireNumsCard.stood.harness) true
    wireNums_row (fun _ h => by cases h) (by kernel_rfl) (fun _ h => by cases h) wireNums_row_tie rfl ⟨rfl, rfl⟩ (by kernel_rfl) rfl
    (fun f fn hf hfn => by
      obtain rfl : f = 3 := Option.some.inj ((show Tryd.prog.funcNamed "roundsman/roundsmanlaw4.WireNums" = some 3 by kernel_rfl).symm.trans hf) |>.symm
      obtain rfl : fn = Tryd.f3 := (Option.some.inj (Tryd.func3.symm.trans hfn)).symm
      exact ⟨by kernel_rfl, fun j t ht => by
        rw [Tryd.params3] at ht
        exact stand_all #[22, 23, 24] (by kernel_rfl) j t ht⟩)
    (by kernel_rfl)
#print axioms wireNums_card

end Go.Proofs.YtjicekblfpgkdaaDoor
