/-
  PROVED: of two heaps of points, all joined within a heap and fewer than three lines between, Best's cut is the one between the heaps.
-/
import Derived.Test.YthfljimgpcignaaDoorG25
import Derived.Test.YthfljimgpcignaaDoorG22
import Derived.Test.YthfljimgpcignaaDoorLift
import Derived.RegionTactic
import Derived.BigQuiet
import Derived.IntWalk
import Derived.Test.YthfljimgpcignaaDoorCards
import Derived.Test.YthfljimgpcignaaDoorTie
import Derived.SevenTiedAt
namespace Go.Proofs.YthfljimgpcignaaDoor
open Go.ChangeShapes Go.WideShapes Go.ChangeAt Go.RowKit Go.Sort

set_option maxHeartbeats 8000000 in
set_option maxRecDepth 100000 in
theorem bridge_walk (n b : Int) (w : World) (hk : Calls Tryd.prog 6 #[] w fun e w' => e = .returned (.bool true) ∧ Below w.heap.size w w') (hbest : BestC) (hn0 : 0 ≤ n) (_hn1 : n ≤ 255) (hb0 : 0 ≤ b) (hb1 : b ≤ 255) :
    Calls Tryd.prog 5 #[.int .u8 n, .int .u8 b] w fun e w' => e = .returned (.bool true) ∧ Below w.heap.size w w' := by
  have HB := Lib.hid (Below.refl w.heap.size w)
  go_enter Tryd.func5, Tryd.ntmps5
  go_wp2_with fail
  refine (hk).mono ?_
  rintro e w1 ⟨rfl, hb⟩
  have HB_ := Lib.hid (bOn6 HB.out hb)
  clear HB
  have HB := HB_
  clear HB_
  clear hb
  obtain ⟨M, hM⟩ : ∃ M : Nat, 3 + n % 6 = (M : Int) := ⟨(3 + n % 6).toNat, by omega⟩
  obtain ⟨B, hBe⟩ : ∃ B : Nat, b % 3 = (B : Int) := ⟨(b % 3).toNat, by omega⟩
  have hM3 : 3 ≤ M := by omega
  have hM8 : M ≤ 8 := by omega
  have hB2 : B ≤ 2 := by omega
  have e1 : n.tmod 6 = n % 6 := Int.tmod_eq_emod_of_nonneg hn0
  have e2 : b.tmod 3 = (B : Int) := by rw [Int.tmod_eq_emod_of_nonneg hb0]; exact hBe
  have e3 : IntKind.u8.wrap (n % 6) = n % 6 := IntWalk.u8_in _ (by omega)
  have e4 : IntKind.i64.wrap (n % 6) = n % 6 := IntWalk.i64_in _ (by omega)
  have e5 : IntKind.i64.wrap (3 + n % 6) = M := by rw [hM]; exact IntWalk.i64_in _ (by omega)
  have e6 : IntKind.i64.wrap b = b := IntWalk.i64_in _ (by omega)
  have e7 : IntKind.i64.wrap (B : Int) = B := IntWalk.i64_in _ (by omega)
  obtain ⟨G, hG⟩ : ∃ G, M + M = G := ⟨_, rfl⟩
  have e8 : IntKind.i64.wrap (2 * (M : Int)) = (G : Int) := by rw [show 2 * (M : Int) = (G : Int) from by omega]; exact IntWalk.i64_in _ (by omega)
  have HG := Lib.hid hG
  clear hG
  have HM : Hid (3 ≤ M ∧ M ≤ 8 ∧ B ≤ 2) := Lib.hid ⟨hM3, hM8, hB2⟩
  clear hM hM3 hM8 hB2
  go_wp2_with fail
  clear hBe e1 e2 e3 e4 e5 e6 e7 hn0 _hn1 hb0 hb1
  go_loopw [7, 8, 9, 10] (fun v7 v8 iv _ wr => BrRel w1 M v7 v8 iv wr) (fun _ _ iv _ _ => G - (intOf iv).toNat)
  case atStart => exact ⟨0, Nat.zero_le _, rfl, PT.nil⟩
  case round =>
    obtain ⟨i, hi, rfl, hm⟩ := hrel
    by_cases hlt : i < G
    · have HP := Lib.hid hm
      have hki : (i : Int) < (G : Int) := by omega
      have hlt9 : i < M + M := by have := HG.out; omega
      have hdm := Nat.div_add_mod i M
      rw [Nat.mul_comm] at hdm
      have hm0 : 0 < M := by have := HM.out; omega
      have hml := Nat.mod_lt i hm0
      have hq2 : i / M < 2 := (Nat.div_lt_iff_lt_mul hm0).2 (by omega)
      have hqm : i / M * M ≤ i := by omega
      have hi16 : i < 16 := by have := HM.out; omega
      obtain ⟨Q, hQ⟩ : ∃ Q : Int, ((i / M : Nat) : Int) = Q := ⟨_, rfl⟩
      obtain ⟨R, hR⟩ : ∃ R : Int, ((i % M : Nat) : Int) = R := ⟨_, rfl⟩
      obtain ⟨A, hA⟩ : ∃ A : Int, ((i / M * 100000 : Nat) : Int) = A := ⟨_, rfl⟩
      obtain ⟨X, hX⟩ : ∃ X : Int, ((i / M * 100000 + i % M : Nat) : Int) = X := ⟨_, rfl⟩
      obtain ⟨Y, hY⟩ : ∃ Y : Int, ((i % M * 7 : Nat) : Int) = Y := ⟨_, rfl⟩
      obtain ⟨J0, hJ0⟩ : ∃ J0 : Int, ((i / M * M + 0 : Nat) : Int) = J0 := ⟨_, rfl⟩
      have d1 : (i : Int).tdiv M = Q := by rw [Int.tdiv_eq_ediv_of_nonneg (by omega), ← hQ]; simp
      have d2 : (i : Int).tmod M = R := by rw [Int.tmod_eq_emod_of_nonneg (by omega), ← hR]; simp
      have d1' : (i : Int) / M = Q := by rw [← hQ]; simp
      have d2' : (i : Int) % M = R := by rw [← hR]; simp
      have d3 : IntKind.i64.wrap Q = Q := IntWalk.i64_in _ (by omega)
      have d4 : IntKind.i64.wrap R = R := IntWalk.i64_in _ (by omega)
      have d5 : IntKind.i64.wrap (Q * 100000) = A := by rw [show Q * 100000 = A from by omega]; exact IntWalk.i64_in _ (by omega)
      have d6 : IntKind.i64.wrap (A + R) = X := by rw [show A + R = X from by omega]; exact IntWalk.i64_in _ (by omega)
      have d7 : IntKind.i64.wrap (R * 7) = Y := by rw [show R * 7 = Y from by omega]; exact IntWalk.i64_in _ (by omega)
      have d8 : IntKind.i64.wrap (Q * M) = J0 := by
        rw [show Q * (M : Int) = J0 from by rw [← hQ, ← hJ0]; simp]
        exact IntWalk.i64_in _ (by omega)
      have d0 : ((M : Int) == 0) = false := by simp only [beq_eq_false_iff_ne]; omega
      have d0' : decide ((M : Int) = 0) = false := by simp only [decide_eq_false_iff_not]; omega
      have d0n : (M : Int) ≠ 0 := by omega
      have HX : brP M i ++ [(X, Y)] = brP M (i + 1) := by rw [← hX, ← hY]; rfl
      have HX := Lib.hid HX
      have HJ := Lib.hid hJ0
      have HI : Hid (i < 16 ∧ i / M * M + i % M = i ∧ i < M + M) := Lib.hid ⟨hi16, hdm, hlt9⟩
      have WX : Hid ((IntKind.i64.wrap ((i : Int).tdiv M) = Q ∧ IntKind.i64.wrap ((i : Int) / M) = Q ∧ IntKind.i64.wrap ((i : Int).tmod M) = R ∧ IntKind.i64.wrap ((i : Int) % M) = R) ∧ ((i : Int).tdiv M = Q ∧ (i : Int).tmod M = R ∧ (i : Int) / M = Q ∧ (i : Int) % M = R ∧ IntKind.i64.wrap Q = Q ∧ IntKind.i64.wrap R = R) ∧ (IntKind.i64.wrap (Q * 100000) = A ∧ IntKind.i64.wrap (A + R) = X ∧ IntKind.i64.wrap (R * 7) = Y) ∧ ((M : Int) == 0) = false ∧ decide ((M : Int) = 0) = false ∧ (M : Int) ≠ 0 ∧ M ≠ 0) := Lib.hid ⟨⟨by rw [d1, d3], by rw [d1', d3], by rw [d2, d4], by rw [d2', d4]⟩, ⟨d1, d2, d1', d2', d3, d4⟩, ⟨d5, d6, d7⟩, d0, d0', d0n, by omega⟩
      have WJ := Lib.hid d8
      have HL1 : Hid ((brP M i).length ≤ 100000) := Lib.hid (by rw [brP_len]; omega)
      have SA0 : Hid (GG.ApS 15 (PT w1 (brP M i) u7 (zE (brE M i)) u8) w1 (fun _ => false) false wr.drew) := Lib.hid ⟨rfl, fun _ => PT.stab _ _ HP.out (Below.refl _ _).drew, HP.out.b.drew⟩
      clear hlt9 hm hdm hml hq2 hqm hQ hR hA hX hY hJ0 d1 d2 d1' d2' d3 d4 d5 d6 d7 d8 d0 d0' d0n hi16 hi
      go_wp2_with fail
      refine' GG.wp_thenL _ 16 (GG.ApS 15 (PT w1 (brP M i) u7 (zE (brE M i)) u8) w1) [[], [], [], [1, 2], [1, 2, 3], [], [], [5, 6], [1, 2, 3, 4, 5, 6, 7], [], [], [9, 10], [9, 10, 11], [1, 2, 3, 4, 5, 6, 7, 8, 9, 10, 11, 12], [1, 2, 3, 4, 5, 6, 7, 8, 9, 10, 11, 12, 13], [0, 1, 2, 3, 4, 5, 6, 7, 8, 9, 10, 11, 12, 13, 14]] (GG.Fact.lit (Rl := GG.RlA) _ :: GG.Fact.lit (Rl := GG.RlA) _ :: GG.Fact.lit (Rl := GG.RlA) _ :: GG.Fact.lit (Rl := GG.RlA) _ :: GG.Fact.lit (Rl := GG.RlA) _ :: GG.Fact.lit (Rl := GG.RlA) _ :: GG.Fact.lit (Rl := GG.RlA) _ :: GG.Fact.lit (Rl := GG.RlA) _ :: GG.Fact.lit (Rl := GG.RlA) _ :: GG.Fact.lit (Rl := GG.RlA) _ :: GG.Fact.lit (Rl := GG.RlA) _ :: GG.Fact.lit (Rl := GG.RlA) _ :: GG.Fact.lit (Rl := GG.RlA) _ :: GG.Fact.lit (Rl := GG.RlA) _ :: GG.Fact.prop (Rl := GG.RlA) _ _ :: GG.Fact.prop (Rl := GG.RlA) _ _ :: []) (by kernel_rfl) rfl (by kernel_rfl) (false) (SA0.out) ?seqta
      case' seqta => skip
      (refine' GG.grow_lit (GG.ApS.still (by decide)) rfl ?wtta0 ?runta0 ?putta0 ?nextta0; (case wtta0 => rfl); (case runta0 => (intro w' hS; (obtain ⟨dn, s, hS⟩ := hS); (obtain ⟨⟨x1, x2, x3, x4⟩, ⟨x5, x6, x7, x8, x9, x10⟩, ⟨x11, x12, x13⟩, x14, x15, x16, x17⟩ := WX.out); clear hS; go_simp; first | done | exact rfl)); (case putta0 => (first | (simp only [Act.put, List.setIfInBounds_toArray, List.set_cons_zero, List.set_cons_succ]; first | done | exact rfl) | rfl)); (case' nextta0 => skip))
      (refine' GG.grow_lit (GG.ApS.still (by decide)) rfl ?wtta1 ?runta1 ?putta1 ?nextta1; (case wtta1 => rfl); (case runta1 => (intro w' hS; (obtain ⟨dn, s, hS⟩ := hS); (obtain ⟨⟨x1, x2, x3, x4⟩, ⟨x5, x6, x7, x8, x9, x10⟩, ⟨x11, x12, x13⟩, x14, x15, x16, x17⟩ := WX.out); clear hS; go_simp; first | done | exact rfl)); (case putta1 => (first | (simp only [Act.put, List.setIfInBounds_toArray, List.set_cons_zero, List.set_cons_succ]; first | done | exact rfl) | rfl)); (case' nextta1 => skip))
      (refine' GG.grow_lit (GG.ApS.still (by decide)) rfl ?wtta2 ?runta2 ?putta2 ?nextta2; (case wtta2 => rfl); (case runta2 => (intro w' hS; (obtain ⟨dn, s, hS⟩ := hS); (obtain ⟨⟨x1, x2, x3, x4⟩, ⟨x5, x6, x7, x8, x9, x10⟩, ⟨x11, x12, x13⟩, x14, x15, x16, x17⟩ := WX.out); clear hS; go_simp; first | done | exact rfl)); (case putta2 => (first | (simp only [Act.put, List.setIfInBounds_toArray, List.set_cons_zero, List.set_cons_succ]; first | done | exact rfl) | rfl)); (case' nextta2 => skip))
      (refine' GG.grow_lit (GG.ApS.still (by decide)) rfl ?wtta3 ?runta3 ?putta3 ?nextta3; (case wtta3 => rfl); (case runta3 => (intro w' hS; (obtain ⟨dn, s, hS⟩ := hS); (obtain ⟨⟨x1, x2, x3, x4⟩, ⟨x5, x6, x7, x8, x9, x10⟩, ⟨x11, x12, x13⟩, x14, x15, x16, x17⟩ := WX.out); clear hS; go_simp; first | done | exact rfl)); (case putta3 => (first | (simp only [Act.put, List.setIfInBounds_toArray, List.set_cons_zero, List.set_cons_succ]; first | done | exact rfl) | rfl)); (case' nextta3 => skip))
      (refine' GG.grow_lit (GG.ApS.still (by decide)) rfl ?wtta4 ?runta4 ?putta4 ?nextta4; (case wtta4 => rfl); (case runta4 => (intro w' hS; (obtain ⟨dn, s, hS⟩ := hS); (obtain ⟨⟨x1, x2, x3, x4⟩, ⟨x5, x6, x7, x8, x9, x10⟩, ⟨x11, x12, x13⟩, x14, x15, x16, x17⟩ := WX.out); clear hS; go_simp; first | done | exact rfl)); (case putta4 => (first | (simp only [Act.put, List.setIfInBounds_toArray, List.set_cons_zero, List.set_cons_succ]; first | done | exact rfl) | rfl)); (case' nextta4 => skip))
      (refine' GG.grow_lit (GG.ApS.still (by decide)) rfl ?wtta5 ?runta5 ?putta5 ?nextta5; (case wtta5 => rfl); (case runta5 => (intro w' hS; (obtain ⟨dn, s, hS⟩ := hS); (obtain ⟨⟨x1, x2, x3, x4⟩, ⟨x5, x6, x7, x8, x9, x10⟩, ⟨x11, x12, x13⟩, x14, x15, x16, x17⟩ := WX.out); clear hS; go_simp; first | done | exact rfl)); (case putta5 => (first | (simp only [Act.put, List.setIfInBounds_toArray, List.set_cons_zero, List.set_cons_succ]; first | done | exact rfl) | rfl)); (case' nextta5 => skip))
      (refine' GG.grow_lit (GG.ApS.still (by decide)) rfl ?wtta6 ?runta6 ?putta6 ?nextta6; (case wtta6 => rfl); (case runta6 => (intro w' hS; (obtain ⟨dn, s, hS⟩ := hS); (obtain ⟨⟨x1, x2, x3, x4⟩, ⟨x5, x6, x7, x8, x9, x10⟩, ⟨x11, x12, x13⟩, x14, x15, x16, x17⟩ := WX.out); clear hS; go_simp; first | done | exact rfl)); (case putta6 => (first | (simp only [Act.put, List.setIfInBounds_toArray, List.set_cons_zero, List.set_cons_succ]; first | done | exact rfl) | rfl)); (case' nextta6 => skip))
      (refine' GG.grow_lit (GG.ApS.still (by decide)) rfl ?wtta7 ?runta7 ?putta7 ?nextta7; (case wtta7 => rfl); (case runta7 => (intro w' hS; (obtain ⟨dn, s, hS⟩ := hS); (obtain ⟨⟨x1, x2, x3, x4⟩, ⟨x5, x6, x7, x8, x9, x10⟩, ⟨x11, x12, x13⟩, x14, x15, x16, x17⟩ := WX.out); clear hS; go_simp; first | done | exact rfl)); (case putta7 => (first | (simp only [Act.put, List.setIfInBounds_toArray, List.set_cons_zero, List.set_cons_succ]; first | done | exact rfl) | rfl)); (case' nextta7 => skip))
      (refine' GG.grow_lit (GG.ApS.still (by decide)) rfl ?wtta8 ?runta8 ?putta8 ?nextta8; (case wtta8 => rfl); (case runta8 => (intro w' hS; (obtain ⟨dn, s, hS⟩ := hS); (obtain ⟨⟨x1, x2, x3, x4⟩, ⟨x5, x6, x7, x8, x9, x10⟩, ⟨x11, x12, x13⟩, x14, x15, x16, x17⟩ := WX.out); clear hS; go_simp; first | done | exact rfl)); (case putta8 => (first | (simp only [Act.put, List.setIfInBounds_toArray, List.set_cons_zero, List.set_cons_succ]; first | done | exact rfl) | rfl)); (case' nextta8 => skip))
      (refine' GG.grow_lit (GG.ApS.still (by decide)) rfl ?wtta9 ?runta9 ?putta9 ?nextta9; (case wtta9 => rfl); (case runta9 => (intro w' hS; (obtain ⟨dn, s, hS⟩ := hS); (obtain ⟨⟨x1, x2, x3, x4⟩, ⟨x5, x6, x7, x8, x9, x10⟩, ⟨x11, x12, x13⟩, x14, x15, x16, x17⟩ := WX.out); clear hS; go_simp; first | done | exact rfl)); (case putta9 => (first | (simp only [Act.put, List.setIfInBounds_toArray, List.set_cons_zero, List.set_cons_succ]; first | done | exact rfl) | rfl)); (case' nextta9 => skip))
      (refine' GG.grow_lit (GG.ApS.still (by decide)) rfl ?wtta10 ?runta10 ?putta10 ?nextta10; (case wtta10 => rfl); (case runta10 => (intro w' hS; (obtain ⟨dn, s, hS⟩ := hS); (obtain ⟨⟨x1, x2, x3, x4⟩, ⟨x5, x6, x7, x8, x9, x10⟩, ⟨x11, x12, x13⟩, x14, x15, x16, x17⟩ := WX.out); clear hS; go_simp; first | done | exact rfl)); (case putta10 => (first | (simp only [Act.put, List.setIfInBounds_toArray, List.set_cons_zero, List.set_cons_succ]; first | done | exact rfl) | rfl)); (case' nextta10 => skip))
      (refine' GG.grow_lit (GG.ApS.still (by decide)) rfl ?wtta11 ?runta11 ?putta11 ?nextta11; (case wtta11 => rfl); (case runta11 => (intro w' hS; (obtain ⟨dn, s, hS⟩ := hS); (obtain ⟨⟨x1, x2, x3, x4⟩, ⟨x5, x6, x7, x8, x9, x10⟩, ⟨x11, x12, x13⟩, x14, x15, x16, x17⟩ := WX.out); clear hS; go_simp; first | done | exact rfl)); (case putta11 => (first | (simp only [Act.put, List.setIfInBounds_toArray, List.set_cons_zero, List.set_cons_succ]; first | done | exact rfl) | rfl)); (case' nextta11 => skip))
      (refine' GG.grow_lit (GG.ApS.still (by decide)) rfl ?wtta12 ?runta12 ?putta12 ?nextta12; (case wtta12 => rfl); (case runta12 => (intro w' hS; (obtain ⟨dn, s, hS⟩ := hS); (obtain ⟨⟨x1, x2, x3, x4⟩, ⟨x5, x6, x7, x8, x9, x10⟩, ⟨x11, x12, x13⟩, x14, x15, x16, x17⟩ := WX.out); clear hS; go_simp; first | done | exact rfl)); (case putta12 => (first | (simp only [Act.put, List.setIfInBounds_toArray, List.set_cons_zero, List.set_cons_succ]; first | done | exact rfl) | rfl)); (case' nextta12 => skip))
      (refine' GG.grow_lit (GG.ApS.still (by decide)) rfl ?wtta13 ?runta13 ?putta13 ?nextta13; (case wtta13 => rfl); (case runta13 => (intro w' hS; (obtain ⟨dn, s, hS⟩ := hS); (obtain ⟨⟨x1, x2, x3, x4⟩, ⟨x5, x6, x7, x8, x9, x10⟩, ⟨x11, x12, x13⟩, x14, x15, x16, x17⟩ := WX.out); clear hS; go_simp; first | done | exact rfl)); (case putta13 => (first | (simp only [Act.put, List.setIfInBounds_toArray, List.set_cons_zero, List.set_cons_succ]; first | done | exact rfl) | rfl)); (case' nextta13 => skip))
      (refine' GG.grow_any_op (p := GG.LitP #[.int .i64 X, .int .i64 Y]) (hp := GG.LitP.st #[.int .i64 X, .int .i64 Y]) rfl ?wtta14 ?runta14 ?putta14 ?nextta14; (case wtta14 => rfl); (case runta14 => (intro dn s w' hS hd H; (refine ⟨.slice (some ⟨w'.heap.size, 0, none⟩) 1 1, s, w'.alloc (.cells #[.int .i64 X, .int .i64 Y] 42), ?_, fun _ => ⟨w'.heap.size, rfl, Blk.new _ _ _ _ rfl⟩, (hS.step (by decide)).old PT.stab (below_alloc1 _), ⟨id, fun _ => below_alloc1 _⟩, (below_alloc1 _).size⟩; clear hS hd H; go_simp))); (case putta14 => (intro v; (simp only [Act.put, List.setIfInBounds_toArray, List.set_cons_zero, List.set_cons_succ]; first | done | exact rfl))); (case' nextta14 => intro v14))
      (refine' GG.grow_any_op (p := GG.ApT (fun v w => PT w1 (brP M i ++ [(X, Y)]) v (zE (brE M i)) u8 w)) (hp := GG.ApT.st (fun _ => PT.stab)) rfl ?wtta15 ?runta15 ?putta15 ?nextta15; (case wtta15 => rfl); (case runta15 => (intro dn s w' hS hd H; (obtain rfl : s = false := hS.here.symm.trans hd); (obtain ⟨g, e9, kg⟩ := (show GG.LitP #[.int .i64 X, .int .i64 Y] v14 false w' from H 14 (by decide)) rfl); (obtain ⟨q', n', c', w7, hr, hP, hz⟩ := (hS.r rfl).app kg HL1.out); subst e9; exact ⟨_, true, w7, GG.exec_append (.tmp 30) (.tmp 44) 22 rfl rfl rfl hr, ⟨rfl, ⟨_, _, _, rfl⟩, hP⟩, ⟨rfl, (fun h => by cases h), hP.b⟩, ⟨fun _ => rfl, fun h => by cases h⟩, hz⟩)); (case putta15 => (intro v; (simp only [Act.put, List.setIfInBounds_toArray, List.set_cons_zero, List.set_cons_succ]; first | done | exact rfl))); (case' nextta15 => intro v15))
      intro dn s w7 hS7 _ hk7
      obtain ⟨-, ⟨qz, nz, cz, rfl⟩, hP⟩ : GG.ApT (fun v w => PT w1 (brP M i ++ [(X, Y)]) v (zE (brE M i)) u8 w) v15 s w7 := hk7 15 (by decide)
      rw [HX.out] at hP
      have HP7 := Lib.hid hP
      clear hk7 hS7 hP SA0
      refine wpAny_ready (rs := [16]) (by kernel_rfl) (by simp) (AllReady.cons rfl (fun K hK => ?_) AllReady.nil)
      go_simp
      refine hK _ _ ?_
      clear hK K
      refine wpAny_done (by kernel_rfl) ?_ _
      obtain ⟨⟨x1, x2, -, -⟩, ⟨x5, -, x7, -, x9, -⟩, -, x14, x15, x16, x17⟩ := WX.out
      have x20 := WJ.out
      go_wp2_with fail
      clear x1 x2 x5 x7 x9 x14 x15 x16 x17 x20
      go_loopw [8, 10] (fun v8 jv wr => BrRow w1 M i (.slice qz nz cz) v8 jv wr) (fun _ jv _ => i - (intOf jv).toNat)
      case atStart => exact ⟨0, Nat.zero_le _, by rw [HJ.out], by rw [List.range_zero, List.map_nil, List.append_nil]; exact HP7.out⟩
      case round =>
        obtain ⟨t, ht, rfl, hm⟩ := hrel
        obtain ⟨J, hJ⟩ : ∃ J : Nat, i / M * M + t = J := ⟨_, rfl⟩
        have hjt : J < i ↔ t < i % M := by have := HI.out; omega
        by_cases hlt2 : t < i % M
        · have hji : (J : Int) < (i : Int) := by omega
          have hwj : IntKind.i64.wrap ((J : Int) + 1) = (J : Int) + 1 := IntWalk.i64_in _ (by have := HI.out; omega)
          have hjn : i / M * M + (t + 1) = J + 1 := by omega
          have hte := brRow_take (m := M) (i := i) (t := t)
          have hlE : (zE (brE M i ++ (List.range t).map fun u => (i, i / M * M + u))).length ≤ 100000 := by
            rw [zE_len, List.length_append, List.length_map, List.length_range]
            have h1 := brE_len M hm0 i
            have h2 : i * M ≤ 16 * 8 := Nat.mul_le_mul (by have := HI.out; omega) HM.out.2.1
            have := HI.out
            have := HM.out
            omega
          obtain ⟨q2, n2, c2, w5, hr5, hp5, -⟩ := (PT.stab _ _ hm (below_alloc1 _)).symm.app (x := (i : Int)) (y := (J : Int)) (Blk.new _ _ _ wr.heap.size (by simp)) hlE
          rw [hJ] at hte
          rw [← hte] at hp5
          have HR5 := Lib.hid hr5
          have HP5 := Lib.hid hp5.symm
          have HJN := Lib.hid hjn
          rw [hJ]
          clear hr5 hp5 hm hte hlE hjt hJ hjn HP
          go_wp2_with (at_builtin; refine wpList_append_run (by rfl) _ _ _ rfl _ _ _ rfl rfl HR5.out ?_)
          go_roundw
          case rel => exact ⟨t + 1, hlt2, by rw [HJN.out]; go_num, HP5.out⟩
          case measure => simp [intOf]; omega
        · obtain rfl : t = i % M := by omega
          have hji : ¬ (J : Int) < (i : Int) := by omega
          have hji2 : (i : Int) ≤ (J : Int) := by omega
          have HP9 := Lib.hid (show PT w1 (brP M (i + 1)) _ (zE (brE M (i + 1))) _ wr from hm)
          have hwi : IntKind.i64.wrap ((i : Int) + 1) = (i : Int) + 1 := IntWalk.i64_in _ (by have := HI.out; omega)
          rw [hJ]
          clear hm hjt hJ HP
          go_wp2_with fail
          go_roundw
          case rel => exact ⟨i + 1, HI.out.2.2, by go_num, HP9.out⟩
          case measure => simp [intOf]; omega
    · obtain rfl : G = i := by have := HG.out; omega
      rw [← HG.out] at hm
      have HP := Lib.hid hm
      clear hlt hi hm
      go_wp2_with fail
      go_loopw [8, 11] (fun v8 iv wr => BrBet w1 M B u7 v8 iv wr) (fun _ iv _ => B - (intOf iv).toNat)
      case atStart => exact ⟨0, Nat.zero_le _, rfl, by rw [brB, List.append_nil]; exact HP.out⟩
      case round =>
        obtain ⟨i, hi, rfl, hm⟩ := hrel
        clear HP
        by_cases hlt : i < B
        · have hki : (i : Int) < (B : Int) := by omega
          have hwi : IntKind.i64.wrap ((i : Int) + 1) = (i : Int) + 1 := IntWalk.i64_in _ (by have := HM.out; omega)
          obtain ⟨S, hS⟩ : ∃ S : Int, ((M + i : Nat) : Int) = S := ⟨_, rfl⟩
          have hws : IntKind.i64.wrap ((M : Int) + (i : Int)) = S := by rw [← hS, Int.natCast_add]; exact IntWalk.i64_in _ (by have := HM.out; omega)
          have hte : zE (brE M (M + M) ++ brB M (i + 1)) = zE (brE M (M + M) ++ brB M i) ++ [((i : Int), S)] := by
            rw [brB, ← List.append_assoc, zE_app, ← hS]
            rfl
          have hlE : (zE (brE M (M + M) ++ brB M i)).length ≤ 100000 := by
            rw [zE_len, List.length_append, brB_len]
            have h1 := brE_len M (by have := HM.out; omega) (M + M)
            have h2 : (M + M) * M ≤ 16 * 8 := Nat.mul_le_mul (by have := HM.out; omega) HM.out.2.1
            have := HM.out
            omega
          obtain ⟨q2, n2, c2, w5, hr5, hp5, -⟩ := (PT.stab _ _ hm (below_alloc1 _)).symm.app (x := (i : Int)) (y := S) (Blk.new _ _ _ wr.heap.size (by simp)) hlE
          rw [← hte] at hp5
          have HR5 := Lib.hid hr5
          have HP5 := Lib.hid hp5.symm
          clear hr5 hp5 hm hte hlE hS
          go_wp2_with (at_builtin; refine wpList_append_run (by rfl) _ _ _ rfl _ _ _ rfl rfl HR5.out ?_)
          go_roundw
          case rel => exact ⟨i + 1, hlt, by go_num, HP5.out⟩
          case measure => simp [intOf]; omega
        · obtain rfl : B = i := by omega
          have HBW := Lib.hid (bOn6 HB.out hm.b)
          have HPP := Lib.hid (prs_of_owns hm.r1 (by rw [brP_len]; have := HM.out; omega))
          have HPE := Lib.hid (prs_of_owns hm.r2 (by
            rw [zE_len, List.length_append, brB_len]
            have h1 := brE_len M (by have := HM.out; omega) (M + M)
            have h2 : (M + M) * M ≤ 16 * 8 := Nat.mul_le_mul (by have := HM.out; omega) HM.out.2.1
            have := HM.out
            omega))
          have HOK := Lib.hid (br_ok HM.out.1 HM.out.2.1 HM.out.2.2)
          clear hm hlt hi
          go_wp2_with fail
          refine (hbest _ _ _ _ _ HPP.out HPE.out HOK.out).mono ?_
          rintro e w4 ⟨sv, s, pl, L, he, hsv, hsq, hba, hb⟩
          have hs := bridge_best HM.out.1 HM.out.2.1 HM.out.2.2 hsq hba
          obtain ⟨S0, C0, D0, K0⟩ := s
          simp only [Spl.mk.injEq] at hs
          obtain ⟨rfl, rfl, hd0, -⟩ := hs
          have d20 : (D0 != 0) = false := by rw [hd0]; rfl
          have d21 : (D0 == 0) = true := by rw [hd0]; rfl
          simp only at he hsv
          subst he
          obtain ⟨sq, sc, rfl⟩ := hsv.shapeN (N := G) (by rw [heapL_len]; exact HG.out)
          have HSV := Lib.hid hsv
          have HBV := Lib.hid (bOn6 HBW.out hb)
          clear hsv hsq hba hb hd0 HBW HPP HPE
          obtain ⟨x1, hx1⟩ := named (w4.alloc (.cells #[.slice sq G sc, .int .i64 (B : Int), .int .i64 D0, .int .i64 K0] 36))
          have hb : Below w4.heap.size w4 x1 := by rw [hx1]; exact below_alloc1 _
          obtain ⟨g1, hg1⟩ : ∃ g, w4.heap.size = g := ⟨_, rfl⟩
          have kb : Blk x1 g1 #[.slice sq G sc, .int .i64 (B : Int), .int .i64 D0, .int .i64 K0] 36 := by rw [hx1]; exact Blk.new _ _ _ _ hg1
          have HBV_ := Lib.hid (bOn6 HBV.out hb)
          have HSV_ := Lib.hid (HSV.out.below hb)
          clear HBV HSV
          have HBV := HBV_
          have HSV := HSV_
          clear HBV_ HSV_
          have KR := Lib.hid (kb)
          have e1 := hx1.symm
          have z1 : Hid (x1.heap.size = w4.heap.size + 1) := Lib.hid (by rw [hx1]; simp)
          clear hb kb hx1
          obtain ⟨k0, k1, k2, k3, -⟩ := KR.out.o4
          have kl := KR.out.lt
          go_wp2_with fail
          clear e1 z1
          go_loopw [14] (fun iv wr => BrCmp x1 G iv wr) (fun iv _ => G - (intOf iv).toNat)
          case atStart => exact ⟨0, Nat.zero_le _, rfl, rfl⟩
          case round =>
            obtain ⟨i, hi, rfl, rfl⟩ := hrel
            by_cases hlt : i < G
            · have hki : (i : Int) < (G : Int) := by omega
              have hwi : IntKind.i64.wrap ((i : Int) + 1) = (i : Int) + 1 := IntWalk.i64_in _ (by have := HG.out; have := HM.out; omega)
              obtain ⟨nb, no, rfl, sc0, sl⟩ := HSV.out.atN (k := i) (by rw [heapL_len, HG.out]; exact hlt)
              rw [heapL_at (by rw [HG.out]; exact hlt)] at sc0
              unfold heapS at sc0
              by_cases him : i < M
              · have himz : (i : Int) < (M : Int) := by omega
                rw [decide_eq_true him] at sc0
                go_wp2_with fail
                go_roundw
                case rel => exact ⟨i + 1, hlt, by go_num, rfl⟩
                case measure => simp [intOf]; omega
              · have himz : ¬ (i : Int) < (M : Int) := by omega
                have himz2 : (M : Int) ≤ (i : Int) := by omega
                rw [decide_eq_false him] at sc0
                go_wp2_with fail
                go_roundw
                case rel => exact ⟨i + 1, hlt, by go_num, rfl⟩
                case measure => simp [intOf]; omega
            · obtain rfl : G = i := by omega
              go_wp2_with fail
              go_ret
              exact ⟨rfl, HBV.out⟩
end Go.Proofs.YthfljimgpcignaaDoor
