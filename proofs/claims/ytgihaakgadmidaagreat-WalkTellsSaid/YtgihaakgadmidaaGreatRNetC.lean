/-
  The document's nets: is a row a walk, and what does it cost?
-/
import Derived.Test.YtgihaakgadmidaaGreatRNetB
import Derived.Test.YtgihaakgadmidaaGreatA2
import Derived.IntWalk
namespace Go.Proofs.YtgihaakgadmidaaGreat
open Go.RowKit

set_option maxHeartbeats 4000000 in
set_option maxRecDepth 100000 in
theorem rwalk_any (n : NetD) (vq aq tq : Option Addr) (vc ac tc : Nat) (u : Value) (l : List Int) (w : World) (h : NetS w n vq aq tq vc ac tc) (hg : NetGood n) (hu : I64s w u l) (hl : l.length ≤ 1000000) :
    Calls Tryz.prog 34 #[netVal n vq aq tq vc ac tc, u] w fun e w' => e = .returned (.bool (n.walk l)) ∧ Below w.heap.size w w' := by
  obtain ⟨uq, uc, rfl⟩ := hu.shape
  have HG := Lib.hid hg
  have HU := Lib.hid hu
  clear hg hu
  go_enter Tryz.func34, Tryz.ntmps34
  go_wp2_with fail
  obtain ⟨W0, hW0⟩ := named (w.alloc (.cells #[.slice vq n.v.length vc, .slice aq n.a.length ac, .slice tq n.t.length tc] 26))
  rw [← hW0]
  have B0 : Hid (Below w.heap.size w W0) := by rw [hW0]; exact Lib.hid (below_new _)
  have K0 : Hid (Blk W0 w.heap.size #[.slice vq n.v.length vc, .slice aq n.a.length ac, .slice tq n.t.length tc] 26) := by rw [hW0]; exact Lib.hid (Blk.new _ _ _ _ rfl)
  have HS := Lib.hid (h.below B0.out)
  clear h hW0
  go_loopw [5] (fun i wr => ∃ k : Nat, k ≤ l.length ∧ i = .int .i64 k ∧ Hid (n.walkTo l k = true) ∧ Hid (Below W0.heap.size W0 wr)) (fun i _ => l.length - (intOf i).toNat)
  case atStart => exact ⟨0, Nat.zero_le _, rfl, Lib.hid rfl, Lib.hid (Below.refl _ _)⟩
  case round =>
    obtain ⟨k, hk, rfl, HW, HBr⟩ := hrel
    by_cases hlt : k < l.length
    · have hli : (k : Int) < (l.length : Int) := by omega
      obtain ⟨ub, uo, rfl, xl⟩ := ((HU.out.below B0.out).below HBr.out).at hlt
      obtain ⟨A, eA⟩ : ∃ A, l[k] = A := ⟨_, rfl⟩
      have HST := Lib.hid (stepOK_of (n := n) hlt eA)
      rw [eA] at xl
      have XL := Lib.hid xl
      clear xl eA
      have HK := Lib.hid (K0.out.keep HBr.out)
      have HSr := Lib.hid (HS.out.below HBr.out)
      cases ha : n.there A with
      | false =>
        have HA := Lib.hid ha
        clear ha
        have HR : Hid (n.walk l = false) := Lib.hid (by unfold NetD.walk; rw [NetD.walkTo_not (by rw [HST.out, HA.out]; rfl) hlt]; rfl)
        go_wp2_with fail
        have hGS : Grows (fun w' => Below wr.heap.size wr w') := Grows.below wr
        refine' wp_growL _ (fun w' => Below wr.heap.size wr w') [[], [], [], [1, 2], [3], [0, 4], [5], [6], [7], [7, 8], [7], [7], [7, 10, 11], [7, 12], [7, 9, 13], [7, 14], [7, 15], [7, 16], [7, 17], [18], [19], [19, 20], [19, 21], [22], [22], [22], [22, 25], [22, 24, 26], [22, 27], [22], [22], [22, 29, 30], [22, 31], [22, 23, 28, 32], [22, 33], [19, 22, 34], [19, 35]] (Fact.lit _ :: Fact.lit _ :: Fact.lit _ :: Fact.lit _ :: Fact.lit _ :: Fact.lit _ :: Fact.lit _ :: Fact.lit _ :: Fact.lit _ :: Fact.lit _ :: Fact.lit _ :: Fact.lit _ :: Fact.lit _ :: Fact.lit _ :: Fact.lit _ :: Fact.lit _ :: Fact.lit _ :: Fact.lit _ :: Fact.lit _ :: Fact.lit _ :: Fact.lit _ :: Fact.lit _ :: Fact.lit _ :: Fact.lit _ :: Fact.lit _ :: Fact.lit _ :: Fact.lit _ :: Fact.lit _ :: Fact.lit _ :: Fact.lit _ :: Fact.lit _ :: Fact.lit _ :: Fact.lit _ :: Fact.lit _ :: Fact.lit _ :: Fact.lit _ :: Fact.lit _ :: []) (by kernel_rfl) rfl (by kernel_rfl) (Below.refl _ _).drew ?seqwi
        case' seqwi => skip
        iterate 5 ((first | (apply grow_skip; (case hf => rfl); (case hw => rfl)) | (apply grow_lit; (case hf => rfl); (case hw => rfl); (case hrun => (intro w' hS H; clear H; (obtain ⟨c0, c1, c2, -, -, -⟩ := (HK.out.keep hS).o3); (have xl := keep hS XL.out); clear hS; go_simp; first | done | exact rfl)))); (case hc => (simp only [Act.put, List.setIfInBounds_toArray, List.set_cons_zero, List.set_cons_succ]; first | done | exact rfl)); (try (case hj => rfl)))
        (refine' grow_call (u := .bool false) rfl Tryz.func28 (by kernel_rfl) rfl hGS rfl ?wt13 ?run13 ?put13 ?next13; (case wt13 => rfl); (case run13 => (intro w' hS H; exact (rthere_any n _ _ _ vc ac tc A w').mono (fun e w2 h => ⟨h.1.trans (by rw [HA.out]), h.2⟩))); (case put13 => (simp only [Act.put, List.setIfInBounds_toArray, List.set_cons_zero, List.set_cons_succ]; first | done | exact rfl)); (case' next13 => skip))
        iterate 31 ((first | (apply grow_skip; (case hf => rfl); (case hw => rfl)) | (apply grow_lit; (case hf => rfl); (case hw => rfl); (case hrun => (intro w' hS H; clear H; (obtain ⟨c0, c1, c2, -, -, -⟩ := (HK.out.keep hS).o3); (have xl := keep hS XL.out); clear hS; go_simp; first | done | exact rfl)))); (case hc => (simp only [Act.put, List.setIfInBounds_toArray, List.set_cons_zero, List.set_cons_succ]; first | done | exact rfl)); (try (case hj => rfl)))
        intro w1 hb _
        have HB1 := Lib.hid (HBr.out.trans (hb.mono HBr.out.size))
        clear hb hGS
        go_wp2_with fail
        go_ret
        exact ⟨ret_bool HR.out.symm, B0.out.trans (HB1.out.mono B0.out.size)⟩
      | true =>
        have HA := Lib.hid ha
        obtain ⟨ka, rfl, hka⟩ := there_of ha
        clear ha
        obtain ⟨ab, ao, rfl, -, -, xw⟩ := HSr.out.a.at hka
        have hla : (ka : Int) < (n.a.length : Int) := by omega
        have HAR := Lib.hid (congrArg (fun x : Tri => x.2.2) (NetGood.arc_at (n := n) ka hka))
        obtain ⟨V, eV⟩ : ∃ V, n.a[ka].2.2 = V := ⟨_, rfl⟩
        have HV : Hid ((n.arc ka).2.2 = V) := Lib.hid (HAR.out.trans eV)
        rw [eV] at xw
        have XW := Lib.hid xw
        clear xw eV HAR
        by_cases hV : V = 1152921504606846976
        · subst hV
          have HR : Hid (n.walk l = false) := Lib.hid (by unfold NetD.walk; rw [NetD.walkTo_not (by rw [HST.out, HA.out, HV.out]; rfl) hlt]; rfl)
          go_wp2_with fail
          have hGS : Grows (fun w' => Below wr.heap.size wr w') := Grows.below wr
          refine' wp_growL _ (fun w' => Below wr.heap.size wr w') [[], [], [], [1, 2], [3], [0, 4], [5], [6], [7], [7, 8], [7], [7], [7, 10, 11], [7, 12], [7, 9, 13], [7, 14], [7, 15], [7, 16], [7, 17], [18], [19], [19, 20], [19, 21], [22], [22], [22], [22, 25], [22, 24, 26], [22, 27], [22], [22], [22, 29, 30], [22, 31], [22, 23, 28, 32], [22, 33], [19, 22, 34], [19, 35]] (Fact.lit _ :: Fact.lit _ :: Fact.lit _ :: Fact.lit _ :: Fact.lit _ :: Fact.lit _ :: Fact.lit _ :: Fact.lit _ :: Fact.lit _ :: Fact.lit _ :: Fact.lit _ :: Fact.lit _ :: Fact.lit _ :: Fact.lit _ :: Fact.lit _ :: Fact.lit _ :: Fact.lit _ :: Fact.lit _ :: Fact.lit _ :: Fact.lit _ :: Fact.lit _ :: Fact.lit _ :: Fact.lit _ :: Fact.lit _ :: Fact.lit _ :: Fact.lit _ :: Fact.lit _ :: Fact.lit _ :: Fact.lit _ :: Fact.lit _ :: Fact.lit _ :: Fact.lit _ :: Fact.lit _ :: Fact.lit _ :: Fact.lit _ :: Fact.lit _ :: Fact.lit _ :: []) (by kernel_rfl) rfl (by kernel_rfl) (Below.refl _ _).drew ?seqwii
          case' seqwii => skip
          iterate 5 ((first | (apply grow_skip; (case hf => rfl); (case hw => rfl)) | (apply grow_lit; (case hf => rfl); (case hw => rfl); (case hrun => (intro w' hS H; clear H; (obtain ⟨c0, c1, c2, -, -, -⟩ := (HK.out.keep hS).o3); (have xl := keep hS XL.out); (have xw := keep hS XW.out); clear hS; go_simp; first | done | exact rfl)))); (case hc => (simp only [Act.put, List.setIfInBounds_toArray, List.set_cons_zero, List.set_cons_succ]; first | done | exact rfl)); (try (case hj => rfl)))
          (refine' grow_call (u := .bool true) rfl Tryz.func28 (by kernel_rfl) rfl hGS rfl ?wt14 ?run14 ?put14 ?next14; (case wt14 => rfl); (case run14 => (intro w' hS H; exact (rthere_any n _ _ _ vc ac tc ka w').mono (fun e w2 h => ⟨h.1.trans (by rw [HA.out]), h.2⟩))); (case put14 => (simp only [Act.put, List.setIfInBounds_toArray, List.set_cons_zero, List.set_cons_succ]; first | done | exact rfl)); (case' next14 => skip))
          iterate 31 ((first | (apply grow_skip; (case hf => rfl); (case hw => rfl)) | (apply grow_lit; (case hf => rfl); (case hw => rfl); (case hrun => (intro w' hS H; clear H; (obtain ⟨c0, c1, c2, -, -, -⟩ := (HK.out.keep hS).o3); (have xl := keep hS XL.out); (have xw := keep hS XW.out); clear hS; go_simp; first | done | exact rfl)))); (case hc => (simp only [Act.put, List.setIfInBounds_toArray, List.set_cons_zero, List.set_cons_succ]; first | done | exact rfl)); (try (case hj => rfl)))
          intro w1 hb _
          have HB1 := Lib.hid (HBr.out.trans (hb.mono HBr.out.size))
          clear hb hGS
          go_wp2_with fail
          go_ret
          exact ⟨ret_bool HR.out.symm, B0.out.trans (HB1.out.mono B0.out.size)⟩
        · have hV' : (V == 1152921504606846976) = false := by simpa using hV
          by_cases hk0 : k = 0
          · have gk : decide ((0 : Int) < (k : Int)) = false := by simp; omega
            have gk2 : decide (0 < k) = false := by simp; omega
            have HN : Hid (n.walkTo l (k + 1) = true) := Lib.hid (by rw [NetD.walkTo_succ, HW.out, HST.out, HA.out, HV.out]; simp [hV, hk0])
            clear hk0 hV
            go_wp2_with fail
            have hGS : Grows (fun w' => Below wr.heap.size wr w') := Grows.below wr
            refine' wp_growL _ (fun w' => Below wr.heap.size wr w') [[], [], [], [1, 2], [3], [0, 4], [5], [6], [7], [7, 8], [7], [7], [7, 10, 11], [7, 12], [7, 9, 13], [7, 14], [7, 15], [7, 16], [7, 17], [18], [19], [19, 20], [19, 21], [22], [22], [22], [22, 25], [22, 24, 26], [22, 27], [22], [22], [22, 29, 30], [22, 31], [22, 23, 28, 32], [22, 33], [19, 22, 34], [19, 35]] (Fact.lit _ :: Fact.lit _ :: Fact.lit _ :: Fact.lit _ :: Fact.lit _ :: Fact.lit _ :: Fact.lit _ :: Fact.lit _ :: Fact.lit _ :: Fact.lit _ :: Fact.lit _ :: Fact.lit _ :: Fact.lit _ :: Fact.lit _ :: Fact.lit _ :: Fact.lit _ :: Fact.lit _ :: Fact.lit _ :: Fact.lit _ :: Fact.lit _ :: Fact.lit _ :: Fact.lit _ :: Fact.lit _ :: Fact.lit _ :: Fact.lit _ :: Fact.lit _ :: Fact.lit _ :: Fact.lit _ :: Fact.lit _ :: Fact.lit _ :: Fact.lit _ :: Fact.lit _ :: Fact.lit _ :: Fact.lit _ :: Fact.lit _ :: Fact.lit _ :: Fact.lit _ :: []) (by kernel_rfl) rfl (by kernel_rfl) (Below.refl _ _).drew ?seqwiii
            case' seqwiii => skip
            iterate 5 ((first | (apply grow_skip; (case hf => rfl); (case hw => rfl)) | (apply grow_lit; (case hf => rfl); (case hw => rfl); (case hrun => (intro w' hS H; clear H; (obtain ⟨c0, c1, c2, -, -, -⟩ := (HK.out.keep hS).o3); (have xl := keep hS XL.out); (have xw := keep hS XW.out); clear hS; go_simp; first | done | exact rfl)))); (case hc => (simp only [Act.put, List.setIfInBounds_toArray, List.set_cons_zero, List.set_cons_succ]; first | done | exact rfl)); (try (case hj => rfl)))
            (refine' grow_call (u := .bool true) rfl Tryz.func28 (by kernel_rfl) rfl hGS rfl ?wt15 ?run15 ?put15 ?next15; (case wt15 => rfl); (case run15 => (intro w' hS H; exact (rthere_any n _ _ _ vc ac tc ka w').mono (fun e w2 h => ⟨h.1.trans (by rw [HA.out]), h.2⟩))); (case put15 => (simp only [Act.put, List.setIfInBounds_toArray, List.set_cons_zero, List.set_cons_succ]; first | done | exact rfl)); (case' next15 => skip))
            iterate 31 ((first | (apply grow_skip; (case hf => rfl); (case hw => rfl)) | (apply grow_lit; (case hf => rfl); (case hw => rfl); (case hrun => (intro w' hS H; clear H; (obtain ⟨c0, c1, c2, -, -, -⟩ := (HK.out.keep hS).o3); (have xl := keep hS XL.out); (have xw := keep hS XW.out); clear hS; go_simp; first | done | exact rfl)))); (case hc => (simp only [Act.put, List.setIfInBounds_toArray, List.set_cons_zero, List.set_cons_succ]; first | done | exact rfl)); (try (case hj => rfl)))
            intro w1 hb _
            have HB1 := Lib.hid (HBr.out.trans (hb.mono HBr.out.size))
            clear hb hGS
            go_wp2_with fail
            go_roundw
            case rel => exact ⟨k + 1, by omega, by go_num, HN, HB1⟩
            case measure => simp [intOf]; omega
          · have gk : decide ((0 : Int) < (k : Int)) = true := by simp; omega
            have gk2 : decide (0 < k) = true := by simp; omega
            obtain ⟨j, hj⟩ : ∃ j, k = j + 1 := ⟨k - 1, by omega⟩
            have hjl : j < l.length := by omega
            obtain ⟨ub', uo', e, xp⟩ := ((HU.out.below B0.out).below HBr.out).at hjl
            obtain ⟨rfl, rfl⟩ : ub = ub' ∧ uo = uo' := by injection e with e; injection e with e1 e2; exact ⟨e1, e2⟩
            obtain ⟨Q, eQ⟩ : ∃ Q, l[j] = Q := ⟨_, rfl⟩
            have HQ : Hid (l.getD (k - 1) 0 = Q) := Lib.hid (by rw [hj, Nat.add_sub_cancel, List.getD_eq_getElem?_getD, List.getElem?_eq_getElem hjl, Option.getD_some, eQ])
            rw [eQ] at xp
            have XP := Lib.hid xp
            have hq1 : IntKind.i64.wrap (j : Int) = (j : Int) := IntWalk.i64_in _ ⟨by omega, by omega⟩
            have hq2 : (k : Int) - 1 = (j : Int) := by omega
            have Q1 := Lib.hid hq1
            have Q2 := Lib.hid hq2
            clear hq1 hq2
            have hji : (j : Int) < (l.length : Int) := by omega
            obtain ⟨T, eT⟩ : ∃ T, n.turn Q ka = T := ⟨_, rfl⟩
            have ET := Lib.hid eT
            have hk1 : ¬ k = 0 := hk0
            by_cases hT : T = 1152921504606846976
            · subst hT
              have HR : Hid (n.walk l = false) := Lib.hid (by unfold NetD.walk; rw [NetD.walkTo_not (by rw [HST.out, HA.out, HV.out, HQ.out, ET.out]; simp [hk1]) hlt]; rfl)
              clear hj hk0 hk1 hV xp e eQ eT
              go_wp2_with fail
              have q1 := Q1.out
              have q2 := Q2.out
              have hGS : Grows (fun w' => Below wr.heap.size wr w') := Grows.below wr
              refine' wp_growL _ (fun w' => Below wr.heap.size wr w') [[], [], [], [1, 2], [3], [0, 4], [5], [6], [7], [7, 8], [7], [7], [7, 10, 11], [7, 12], [7, 9, 13], [7, 14], [7, 15], [7, 16], [7, 17], [18], [19], [19, 20], [19, 21], [22], [22], [22], [22, 25], [22, 24, 26], [22, 27], [22], [22], [22, 29, 30], [22, 31], [22, 23, 28, 32], [22, 33], [19, 22, 34], [19, 35]] (Fact.lit _ :: Fact.lit _ :: Fact.lit _ :: Fact.lit _ :: Fact.lit _ :: Fact.lit _ :: Fact.lit _ :: Fact.lit _ :: Fact.lit _ :: Fact.lit _ :: Fact.lit _ :: Fact.lit _ :: Fact.lit _ :: Fact.lit _ :: Fact.lit _ :: Fact.lit _ :: Fact.lit _ :: Fact.lit _ :: Fact.lit _ :: Fact.lit _ :: Fact.lit _ :: Fact.lit _ :: Fact.lit _ :: Fact.lit _ :: Fact.lit _ :: Fact.lit _ :: Fact.lit _ :: Fact.lit _ :: Fact.lit _ :: Fact.lit _ :: Fact.lit _ :: Fact.lit _ :: Fact.lit _ :: Fact.lit _ :: Fact.lit _ :: Fact.lit _ :: Fact.lit _ :: []) (by kernel_rfl) rfl (by kernel_rfl) (Below.refl _ _).drew ?seqwiv
              case' seqwiv => skip
              iterate 5 ((first | (apply grow_skip; (case hf => rfl); (case hw => rfl)) | (apply grow_lit; (case hf => rfl); (case hw => rfl); (case hrun => (intro w' hS H; clear H; (obtain ⟨c0, c1, c2, -, -, -⟩ := (HK.out.keep hS).o3); (have xl := keep hS XL.out); (have xw := keep hS XW.out); (have xp := keep hS XP.out); clear hS; go_simp; first | done | exact rfl)))); (case hc => (simp only [Act.put, List.setIfInBounds_toArray, List.set_cons_zero, List.set_cons_succ]; first | done | exact rfl)); (try (case hj => rfl)))
              (refine' grow_call (u := .bool true) rfl Tryz.func28 (by kernel_rfl) rfl hGS rfl ?wt16 ?run16 ?put16 ?next16; (case wt16 => rfl); (case run16 => (intro w' hS H; exact (rthere_any n _ _ _ vc ac tc ka w').mono (fun e w2 h => ⟨h.1.trans (by rw [HA.out]), h.2⟩))); (case put16 => (simp only [Act.put, List.setIfInBounds_toArray, List.set_cons_zero, List.set_cons_succ]; first | done | exact rfl)); (case' next16 => skip))
              iterate 27 ((first | (apply grow_skip; (case hf => rfl); (case hw => rfl)) | (apply grow_lit; (case hf => rfl); (case hw => rfl); (case hrun => (intro w' hS H; clear H; (obtain ⟨c0, c1, c2, -, -, -⟩ := (HK.out.keep hS).o3); (have xl := keep hS XL.out); (have xw := keep hS XW.out); (have xp := keep hS XP.out); clear hS; go_simp; first | done | exact rfl)))); (case hc => (simp only [Act.put, List.setIfInBounds_toArray, List.set_cons_zero, List.set_cons_succ]; first | done | exact rfl)); (try (case hj => rfl)))
              (refine' grow_call (u := .int .i64 1152921504606846976) rfl Tryz.func35 (by kernel_rfl) rfl hGS rfl ?wt17 ?run17 ?put17 ?next17; (case wt17 => rfl); (case run17 => (intro w' hS H; exact (rturn_any n _ _ _ vc ac tc Q ka w' (HSr.out.below hS) HG.out).mono (fun e w2 h => ⟨h.1.trans (by rw [ET.out]), h.2⟩))); (case put17 => (simp only [Act.put, List.setIfInBounds_toArray, List.set_cons_zero, List.set_cons_succ]; first | done | exact rfl)); (case' next17 => skip))
              iterate 3 ((first | (apply grow_skip; (case hf => rfl); (case hw => rfl)) | (apply grow_lit; (case hf => rfl); (case hw => rfl); (case hrun => (intro w' hS H; clear H; (obtain ⟨c0, c1, c2, -, -, -⟩ := (HK.out.keep hS).o3); (have xl := keep hS XL.out); (have xw := keep hS XW.out); (have xp := keep hS XP.out); clear hS; go_simp; first | done | exact rfl)))); (case hc => (simp only [Act.put, List.setIfInBounds_toArray, List.set_cons_zero, List.set_cons_succ]; first | done | exact rfl)); (try (case hj => rfl)))
              intro w1 hb _
              have HB1 := Lib.hid (HBr.out.trans (hb.mono HBr.out.size))
              clear hb hGS
              clear q1 q2
              go_wp2_with fail
              go_ret
              exact ⟨ret_bool HR.out.symm, B0.out.trans (HB1.out.mono B0.out.size)⟩
            · have hT' : (T == 1152921504606846976) = false := by simpa using hT
              have HN : Hid (n.walkTo l (k + 1) = true) := Lib.hid (by rw [NetD.walkTo_succ, HW.out, HST.out, HA.out, HV.out, HQ.out, ET.out]; simp [hV, hT])
              clear hj hk0 hk1 hV hT xp e eQ eT
              go_wp2_with fail
              have q1 := Q1.out
              have q2 := Q2.out
              have hGS : Grows (fun w' => Below wr.heap.size wr w') := Grows.below wr
              refine' wp_growL _ (fun w' => Below wr.heap.size wr w') [[], [], [], [1, 2], [3], [0, 4], [5], [6], [7], [7, 8], [7], [7], [7, 10, 11], [7, 12], [7, 9, 13], [7, 14], [7, 15], [7, 16], [7, 17], [18], [19], [19, 20], [19, 21], [22], [22], [22], [22, 25], [22, 24, 26], [22, 27], [22], [22], [22, 29, 30], [22, 31], [22, 23, 28, 32], [22, 33], [19, 22, 34], [19, 35]] (Fact.lit _ :: Fact.lit _ :: Fact.lit _ :: Fact.lit _ :: Fact.lit _ :: Fact.lit _ :: Fact.lit _ :: Fact.lit _ :: Fact.lit _ :: Fact.lit _ :: Fact.lit _ :: Fact.lit _ :: Fact.lit _ :: Fact.lit _ :: Fact.lit _ :: Fact.lit _ :: Fact.lit _ :: Fact.lit _ :: Fact.lit _ :: Fact.lit _ :: Fact.lit _ :: Fact.lit _ :: Fact.lit _ :: Fact.lit _ :: Fact.lit _ :: Fact.lit _ :: Fact.lit _ :: Fact.lit _ :: Fact.lit _ :: Fact.lit _ :: Fact.lit _ :: Fact.lit _ :: Fact.lit _ :: Fact.lit _ :: Fact.lit _ :: Fact.lit _ :: Fact.lit _ :: []) (by kernel_rfl) rfl (by kernel_rfl) (Below.refl _ _).drew ?seqwv
              case' seqwv => skip
              iterate 5 ((first | (apply grow_skip; (case hf => rfl); (case hw => rfl)) | (apply grow_lit; (case hf => rfl); (case hw => rfl); (case hrun => (intro w' hS H; clear H; (obtain ⟨c0, c1, c2, -, -, -⟩ := (HK.out.keep hS).o3); (have xl := keep hS XL.out); (have xw := keep hS XW.out); (have xp := keep hS XP.out); clear hS; go_simp; first | done | exact rfl)))); (case hc => (simp only [Act.put, List.setIfInBounds_toArray, List.set_cons_zero, List.set_cons_succ]; first | done | exact rfl)); (try (case hj => rfl)))
              (refine' grow_call (u := .bool true) rfl Tryz.func28 (by kernel_rfl) rfl hGS rfl ?wt18 ?run18 ?put18 ?next18; (case wt18 => rfl); (case run18 => (intro w' hS H; exact (rthere_any n _ _ _ vc ac tc ka w').mono (fun e w2 h => ⟨h.1.trans (by rw [HA.out]), h.2⟩))); (case put18 => (simp only [Act.put, List.setIfInBounds_toArray, List.set_cons_zero, List.set_cons_succ]; first | done | exact rfl)); (case' next18 => skip))
              iterate 27 ((first | (apply grow_skip; (case hf => rfl); (case hw => rfl)) | (apply grow_lit; (case hf => rfl); (case hw => rfl); (case hrun => (intro w' hS H; clear H; (obtain ⟨c0, c1, c2, -, -, -⟩ := (HK.out.keep hS).o3); (have xl := keep hS XL.out); (have xw := keep hS XW.out); (have xp := keep hS XP.out); clear hS; go_simp; first | done | exact rfl)))); (case hc => (simp only [Act.put, List.setIfInBounds_toArray, List.set_cons_zero, List.set_cons_succ]; first | done | exact rfl)); (try (case hj => rfl)))
              (refine' grow_call (u := .int .i64 T) rfl Tryz.func35 (by kernel_rfl) rfl hGS rfl ?wt19 ?run19 ?put19 ?next19; (case wt19 => rfl); (case run19 => (intro w' hS H; exact (rturn_any n _ _ _ vc ac tc Q ka w' (HSr.out.below hS) HG.out).mono (fun e w2 h => ⟨h.1.trans (by rw [ET.out]), h.2⟩))); (case put19 => (simp only [Act.put, List.setIfInBounds_toArray, List.set_cons_zero, List.set_cons_succ]; first | done | exact rfl)); (case' next19 => skip))
              iterate 3 ((first | (apply grow_skip; (case hf => rfl); (case hw => rfl)) | (apply grow_lit; (case hf => rfl); (case hw => rfl); (case hrun => (intro w' hS H; clear H; (obtain ⟨c0, c1, c2, -, -, -⟩ := (HK.out.keep hS).o3); (have xl := keep hS XL.out); (have xw := keep hS XW.out); (have xp := keep hS XP.out); clear hS; go_simp; first | done | exact rfl)))); (case hc => (simp only [Act.put, List.setIfInBounds_toArray, List.set_cons_zero, List.set_cons_succ]; first | done | exact rfl)); (try (case hj => rfl)))
              intro w1 hb _
              have HB1 := Lib.hid (HBr.out.trans (hb.mono HBr.out.size))
              clear hb hGS
              clear q1 q2
              go_wp2_with fail
              go_roundw
              case rel => exact ⟨k + 1, by omega, by go_num, HN, HB1⟩
              case measure => simp [intOf]; omega
    · have HR : Hid (n.walk l = decide ((0 : Int) < (l.length : Int))) := Lib.hid (by
        obtain rfl : k = l.length := by omega
        unfold NetD.walk; rw [HW.out, Bool.true_and]; simp)
      by_cases h0 : 0 < l.length
      · have d0 : decide ((0 : Int) < (l.length : Int)) = true := decide_eq_true (by omega)
        go_wp2_with fail
        go_ret
        exact ⟨ret_bool (by rw [HR.out, d0]), B0.out.trans (HBr.out.mono B0.out.size)⟩
      · have d0 : decide ((0 : Int) < (l.length : Int)) = false := decide_eq_false (by omega)
        go_wp2_with fail
        go_ret
        exact ⟨ret_bool (by rw [HR.out, d0]), B0.out.trans (HBr.out.mono B0.out.size)⟩

set_option maxHeartbeats 4000000 in
set_option maxRecDepth 100000 in
theorem rcost_any (n : NetD) (vq aq tq : Option Addr) (vc ac tc : Nat) (u : Value) (l : List Int) (w : World) (h : NetS w n vq aq tq vc ac tc) (hg : NetGood n) (hu : I64s w u l) (hl : l.length ≤ 1000000) :
    Calls Tryz.prog 17 #[netVal n vq aq tq vc ac tc, u] w fun e w' => e = .returned (.int .i64 (n.cost l)) ∧ Below w.heap.size w w' := by
  obtain ⟨uq, uc, rfl⟩ := hu.shape
  have HG := Lib.hid hg
  have HU := Lib.hid hu
  clear hg hu
  go_enter Tryz.func17, Tryz.ntmps17
  go_wp2_with fail
  obtain ⟨W0, hW0⟩ := named (w.alloc (.cells #[.slice vq n.v.length vc, .slice aq n.a.length ac, .slice tq n.t.length tc] 26))
  rw [← hW0]
  have B0 : Hid (Below w.heap.size w W0) := by rw [hW0]; exact Lib.hid (below_new _)
  have K0 : Hid (Blk W0 w.heap.size #[.slice vq n.v.length vc, .slice aq n.a.length ac, .slice tq n.t.length tc] 26) := by rw [hW0]; exact Lib.hid (Blk.new _ _ _ _ rfl)
  have HS := Lib.hid (h.below B0.out)
  clear h hW0
  obtain ⟨c0, c1, c2, -, -, -⟩ := K0.out.o3
  go_wp2_with fail
  refine (rwalk_any n _ _ _ vc ac tc _ l W0 HS.out HG.out (HU.out.below B0.out) hl).mono ?_
  rintro e w1 ⟨rfl, hb⟩
  have HB1 := Lib.hid hb
  clear hb c0 c1 c2
  cases hw : n.walk l with
  | false =>
    have HR : Hid (n.cost l = 1152921504606846976) := Lib.hid (by unfold NetD.cost; rw [hw]; rfl)
    clear hw
    go_wp2_with fail
    go_ret
    exact ⟨ret_int HR.out.symm, B0.out.trans (HB1.out.mono B0.out.size)⟩
  | true =>
    have HR : Hid (n.cost l = n.costTo l l.length) := Lib.hid (by unfold NetD.cost; rw [if_pos hw])
    have hall : n.walkTo l l.length = true ∧ 0 < l.length := by
      unfold NetD.walk at hw
      simpa using hw
    obtain ⟨hall, hpos⟩ := hall
    have HALL := Lib.hid hall
    clear hw hall
    go_wp2_with fail
    go_loopw [5, 6] (fun c i wr => ∃ k : Nat, 1 ≤ k ∧ k ≤ l.length ∧ i = .int .i64 k ∧ c = .int .i64 (n.costTo l k) ∧ Hid (Below W0.heap.size W0 wr)) (fun _ i _ => l.length - (intOf i).toNat)
    case atStart => exact ⟨1, Nat.le_refl _, hpos, rfl, rfl, HB1⟩
    case round =>
      obtain ⟨k, hk1, hk, rfl, rfl, HBr⟩ := hrel
      by_cases hlt : k < l.length
      · have hli : (k : Int) < (l.length : Int) := by omega
        obtain ⟨j, hj⟩ : ∃ j, k = j + 1 := ⟨k - 1, by omega⟩
        have hjl : j < l.length := by omega
        obtain ⟨ub, uo, rfl, xl⟩ := ((HU.out.below B0.out).below HBr.out).at hlt
        obtain ⟨ub', uo', e, xp⟩ := ((HU.out.below B0.out).below HBr.out).at hjl
        obtain ⟨rfl, rfl⟩ : ub = ub' ∧ uo = uo' := by injection e with e; injection e with e1 e2; exact ⟨e1, e2⟩
        have hst := NetD.walkTo_at HALL.out hlt
        obtain ⟨A, eA⟩ : ∃ A, l[k] = A := ⟨_, rfl⟩
        rw [stepOK_of hlt eA] at hst
        have ha : n.there A = true := by
          simp only [Bool.and_eq_true] at hst
          exact hst.1.1
        have HA := Lib.hid ha
        obtain ⟨ka, eka, hka⟩ := there_of ha
        rw [eA, eka] at xl
        obtain ⟨Q, eQ⟩ : ∃ Q, l[j] = Q := ⟨_, rfl⟩
        rw [eQ] at xp
        have XL := Lib.hid xl
        have XP := Lib.hid xp
        have HSr := Lib.hid (HS.out.below HBr.out)
        have HK := Lib.hid (K0.out.keep HBr.out)
        obtain ⟨ab, ao, rfl, -, -, xw⟩ := HSr.out.a.at hka
        have hla : (ka : Int) < (n.a.length : Int) := by omega
        obtain ⟨V, eV⟩ : ∃ V, n.a[ka].2.2 = V := ⟨_, rfl⟩
        have hv := (HG.out.arcs ka hka).2.2.2.2
        rw [eV] at xw hv
        have XW := Lib.hid xw
        have HVW := Lib.hid (wgt_in hv)
        obtain ⟨T, eT⟩ : ∃ T, n.turn Q ka = T := ⟨_, rfl⟩
        have ET := Lib.hid eT
        have HTW : Hid (0 ≤ T ∧ T ≤ 1152921504606846976) := Lib.hid (by rw [← eT]; exact turn_bd HG.out _ _)
        obtain ⟨C, eC⟩ : ∃ C, n.costTo l k = C := ⟨_, rfl⟩
        have HCW : Hid (0 ≤ C ∧ C ≤ 1152921504606846976) := Lib.hid (by rw [← eC]; exact NetD.costTo_lo _ _ _)
        have HN : Hid (n.costTo l (k + 1) = addC C (addC T V)) := Lib.hid (by
          have e1 : l.getD (j + 1) 0 = ka := by rw [← hj, List.getD_eq_getElem?_getD, List.getElem?_eq_getElem hlt, Option.getD_some, eA, eka]
          have e2 : l.getD j 0 = Q := by rw [List.getD_eq_getElem?_getD, List.getElem?_eq_getElem hjl, Option.getD_some, eQ]
          rw [← eC, hj]
          show addC (n.costTo l (j + 1)) (addC (n.turn (l.getD j 0) (l.getD (j + 1) 0)) (n.arc (l.getD (j + 1) 0)).2.2) = _
          rw [e1, e2, eT, NetGood.arc_at ka hka, eV])
        rw [eC]
        have hq1 : IntKind.i64.wrap (j : Int) = (j : Int) := IntWalk.i64_in _ ⟨by omega, by omega⟩
        have hq2 : (k : Int) - 1 = (j : Int) := by omega
        have Q1 := Lib.hid hq1
        have Q2 := Lib.hid hq2
        have hji : (j : Int) < (l.length : Int) := by omega
        clear hq1 hq2 xl xp xw hst ha eA eka eQ eV eT eC e hj hv hpos
        go_wp2_with fail
        have q1 := Q1.out
        have q2 := Q2.out
        have hGS : Grows (fun w' => Below wr.heap.size wr w') := Grows.below wr
        refine' wp_thenL _ 23 (fun w' => Below wr.heap.size wr w') [[], [], [], [], [3], [2, 4], [5], [], [], [7, 8], [9], [1, 6, 10], [], [12], [], [], [14, 15], [16], [13, 17], [18], [19], [11, 20], [0, 21]] (Fact.lit _ :: Fact.lit _ :: Fact.lit _ :: Fact.lit _ :: Fact.lit _ :: Fact.lit _ :: Fact.lit _ :: Fact.lit _ :: Fact.lit _ :: Fact.lit _ :: Fact.lit _ :: Fact.lit _ :: Fact.lit _ :: Fact.lit _ :: Fact.lit _ :: Fact.lit _ :: Fact.lit _ :: Fact.lit _ :: Fact.lit _ :: Fact.lit _ :: Fact.lit _ :: Fact.lit _ :: Fact.lit _ :: []) (by kernel_rfl) rfl (by kernel_rfl) (Below.refl _ _).drew ?seqc
        case' seqc => skip
        iterate 11 ((first | (apply grow_skip; (case hf => rfl); (case hw => rfl)) | (apply grow_lit; (case hf => rfl); (case hw => rfl); (case hrun => (intro w' hS H; clear H; (obtain ⟨c0, c1, c2, -, -, -⟩ := (HK.out.keep hS).o3); (have xl := keep hS XL.out); (have xp := keep hS XP.out); (have xw := keep hS XW.out); clear hS; go_simp; first | done | exact rfl)))); (case hc => (simp only [Act.put, List.setIfInBounds_toArray, List.set_cons_zero, List.set_cons_succ]; first | done | exact rfl)); (try (case hj => rfl)))
        (refine' grow_call (u := .int .i64 T) rfl Tryz.func35 (by kernel_rfl) rfl hGS rfl ?wt20 ?run20 ?put20 ?next20; (case wt20 => rfl); (case run20 => (intro w' hS H; exact (rturn_any n _ _ _ vc ac tc Q ka w' (HSr.out.below hS) HG.out).mono (fun e w2 h => ⟨h.1.trans (by rw [ET.out]), h.2⟩))); (case put20 => (simp only [Act.put, List.setIfInBounds_toArray, List.set_cons_zero, List.set_cons_succ]; first | done | exact rfl)); (case' next20 => skip))
        iterate 9 ((first | (apply grow_skip; (case hf => rfl); (case hw => rfl)) | (apply grow_lit; (case hf => rfl); (case hw => rfl); (case hrun => (intro w' hS H; clear H; (obtain ⟨c0, c1, c2, -, -, -⟩ := (HK.out.keep hS).o3); (have xl := keep hS XL.out); (have xp := keep hS XP.out); (have xw := keep hS XW.out); clear hS; go_simp; first | done | exact rfl)))); (case hc => (simp only [Act.put, List.setIfInBounds_toArray, List.set_cons_zero, List.set_cons_succ]; first | done | exact rfl)); (try (case hj => rfl)))
        (refine' grow_call (u := .int .i64 (addC T V)) rfl Tryz.func29 (by kernel_rfl) rfl hGS rfl ?wt21 ?run21 ?put21 ?next21; (case wt21 => rfl); (case run21 => (intro w' hS H; exact (radd_any T V w' (by have := HTW.out; omega) (by have := HTW.out; omega) (by have := HVW.out; omega) (by have := HVW.out; omega)).mono (fun e w2 ⟨h1, h2⟩ => ⟨h1, by subst h2; exact Below.refl _ _⟩))); (case put21 => (simp only [Act.put, List.setIfInBounds_toArray, List.set_cons_zero, List.set_cons_succ]; first | done | exact rfl)); (case' next21 => skip))
        (refine' grow_call (u := .int .i64 (addC C (addC T V))) rfl Tryz.func29 (by kernel_rfl) rfl hGS rfl ?wt22 ?run22 ?put22 ?next22; (case wt22 => rfl); (case run22 => (intro w' hS H; exact (radd_any C (addC T V) w' (by have := HCW.out; omega) (by have := HCW.out; omega) (by have := addC_lo T V; omega) (by have := addC_hi T V; omega)).mono (fun e w2 ⟨h1, h2⟩ => ⟨h1, by subst h2; exact Below.refl _ _⟩))); (case put22 => (simp only [Act.put, List.setIfInBounds_toArray, List.set_cons_zero, List.set_cons_succ]; first | done | exact rfl)); (case' next22 => skip))
        intro w2 hb _
        refine wpAny_ready (rs := [23]) (by kernel_rfl) (by simp) (AllReady.cons rfl (fun K hK => ?_) AllReady.nil)
        go_simp
        refine hK _ _ ?_
        clear hK K
        refine wpAny_done (by kernel_rfl) ?_ _
        have HB2 := Lib.hid (HBr.out.trans (hb.mono HBr.out.size))
        clear hb hGS q1 q2
        go_wp2_with fail
        go_roundw
        case rel => exact ⟨k + 1, by omega, by omega, by go_num, by rw [HN.out], HB2⟩
        case measure => simp [intOf]; omega
      · have HE : Hid (n.costTo l k = n.cost l) := Lib.hid (by
          obtain rfl : k = l.length := by omega
          exact HR.out.symm)
        rw [HE.out]
        go_wp2_with fail
        go_ret
        exact ⟨rfl, B0.out.trans (HBr.out.mono B0.out.size)⟩

end Go.Proofs.YtgihaakgadmidaaGreat
