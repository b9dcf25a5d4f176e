/-
  The program's walks: the least costs from an arc, to an arc; which can be reached.
-/
import Derived.Test.YtgihaakgadmidaaGreatK5
import Derived.Sort.Row
import Derived.RegionTactic
import Derived.BigQuiet
import Derived.Test.YtgihaakgadmidaaGreatShelf
namespace Go.Proofs.YtgihaakgadmidaaGreat
open HP Go.RowKit

theorem i64s_of_blk {w : World} {b N : Nat} {C : List Int} {t : TypeId} (h : Blk w b (numC C) t) (hl : C.length = N) (hN : N ≤ 16384) : I64s w (.slice (some ⟨b, 0, none⟩) N N) C := by
  subst hl
  exact Or.inr ⟨by omega, b, 0, C.length, Nat.le_refl _, by omega, rfl, fun i hi => by rw [Nat.zero_add]; exact h.cell i (numC_at hi)⟩
/-- What is found from s, or why nothing. -/
def WalkQ (n : NetD) (L : Nat → List It) (N : Nat) (s : Int) (C B : List Int) : Prop :=
  (∃ k : Nat, s = k ∧ k < N ∧ wN n k ≠ 1152921504606846976 ∧ DjOut L N k C B) ∨ ((∀ k : Nat, s = k → k < N → wN n k = 1152921504606846976) ∧ C = List.replicate N 1152921504606846976)
theorem WalkQ.from {n : NetD} {s : Int} {C B : List Int} (h : WalkQ n (onwL n) n.a.length s C B) (hl : C.length = n.a.length) : FromP n s C := by
  rcases h with ⟨k, rfl, h1, h2, h3⟩ | h
  · exact h3.fromD h1 h2
  · exact ⟨hl, Or.inr h⟩
theorem WalkQ.to {n : NetD} {s : Int} {C B : List Int} (h : WalkQ n (bckL n) n.a.length s C B) (hl : C.length = n.a.length) : ToP n s C := by
  rcases h with ⟨k, rfl, h1, h2, h3⟩ | h
  · exact h3.toD h1 h2
  · exact ⟨hl, Or.inr h⟩
/-- What From, To answer. -/
def CostsPost (w : World) (Q : List Int → Prop) (e : Ending) (w' : World) : Prop := ∃ v C, e = .returned v ∧ I64s w' v C ∧ Q C ∧ Below w.heap.size w w'
theorem agg_field0 (a b : Value) (w : World) : (Instr.field 73 (.agg #[a, b]) 0).run Tryz.prog w = .ok a w := by kernel_rfl

set_option maxHeartbeats 4000000 in
set_option maxRecDepth 100000 in
theorem walks_onward {P : Nat → Prop} {w : World} {p : Nat} {n : NetD} {va vt : Value} (h : GraphAt P w p n va vt) (hn : GrN n) {N : Nat} (hN : n.a.length = N) (s : Int) (s0 : -9223372036854775808 ≤ s) (s1 : s ≤ 9223372036854775807) :
    Calls Tryz.prog 30 #[gp p, .int .i64 s, .func (.func 31) #[] #[]] w (GrowPost w N (WalkQ n (onwL n) N s)) := by
  have HG := Lib.hid h
  have HN := Lib.hid hn
  have HNN := Lib.hid hN
  cases hO : (wt n s != 1152921504606846976) with
  | false =>
    have HO := Lib.hid hO
    have HQ : Hid (∀ k : Nat, s = k → k < N → wN n k = 1152921504606846976) := Lib.hid (fun k e hk => by
      subst e
      rw [wt_at (by rw [hN]; exact hk)] at hO
      simpa using hO)
    clear h hn hN hO
    go_enter Tryz.func30, Tryz.ntmps30
    go_wp2_with fail
    obtain ⟨W0, hW0⟩ := named (w.alloc (.cells #[.slice none 0 0, .slice none 0 0] 73))
    rw [← hW0]
    have hb0 : Below w.heap.size w W0 := by rw [hW0]; exact below_alloc1 _
    have K0 : Hid (Blk W0 w.heap.size #[.slice none 0 0, .slice none 0 0] 73) := by rw [hW0]; exact Lib.hid (Blk.new _ _ _ _ rfl)
    have HB0 := Lib.hid hb0
    clear hW0 hb0
    refine (wopen_is (HG.out.old HB0.out) s HO.out).mono ?_
    rintro e w1 ⟨rfl, hb1⟩
    have HB1 := Lib.hid (bOn6 HB0.out hb1)
    have K1 := Lib.hid (K0.out.keep hb1)
    clear hb1 HB0 K0
    go_wp2_with fail
    refine (grow_onward_none (HG.out.old HB1.out) HN.out HNN.out (-1) (Or.inl (by omega)) (by omega) (by omega)).mono ?_
    rintro e w2 ⟨cb, bb, C, B, rfl, kc, kbb, hc0, hb0, hcl, hbl, hq, hb2⟩
    have HKC := Lib.hid kc
    have HKB := Lib.hid kbb
    have HQ2 : Hid (WalkQ n (onwL n) N s C B) := Lib.hid (Or.inr ⟨HQ.out, hq⟩)
    have HLN : Hid (C.length = N ∧ B.length = N) := Lib.hid ⟨hcl, hbl⟩
    have HZ : Hid (w.heap.size ≤ cb ∧ w.heap.size ≤ bb) := Lib.hid (by have := HB1.out.size; omega)
    have HB2 := Lib.hid (bOn6 HB1.out hb2)
    have k2 := K1.out.keep hb2
    have K2 := Lib.hid k2
    obtain ⟨x0, x1, f0, f1⟩ := k2.o2
    have hlt := k2.lt
    clear kc kbb hc0 hb0 hcl hbl hq hb2 k2 K1 HB1 HQ
    go_wp2_with fail
    obtain ⟨we, hwe⟩ := named ((w2.setCell ⟨w.heap.size, 0, none⟩ (.slice (some ⟨cb, 0, none⟩) N N)).setCell ⟨w.heap.size, 1, none⟩ (.slice (some ⟨bb, 0, none⟩) N N))
    rw [← hwe]
    have kr : Blk we w.heap.size #[.slice (some ⟨cb, 0, none⟩) N N, .slice (some ⟨bb, 0, none⟩) N N] 73 := by
      rw [hwe]
      have := (K2.out.set 0 (.slice (some ⟨cb, 0, none⟩) N N)).set 1 (.slice (some ⟨bb, 0, none⟩) N N)
      simpa using this
    have hkp : Keep (fun b => b ≠ w.heap.size) w2 we := by rw [hwe]; exact ((Keep.refl _ _).setCell (fun h => h rfl) _ _).setCell (fun h => h rfl) _ _
    have hP := (show GrowPost w N _ (.returned (.agg #[.slice (some ⟨cb, 0, none⟩) N N, .slice (some ⟨bb, 0, none⟩) N N])) we from
      ⟨cb, bb, C, B, rfl, hkp.blk HKC.out (blk_apart HKC.out K2.out (by decide)), hkp.blk HKB.out (blk_apart HKB.out K2.out (by decide)), HZ.out.1, HZ.out.2, HLN.out.1, HLN.out.2, HQ2.out, HB2.out.trans (hkp.below (fun b hb e => by omega) HB2.out.size)⟩)
    obtain ⟨r0, r1, -, -⟩ := kr.o2
    exact bodyPost_ret (v := .agg #[.slice (some ⟨cb, 0, none⟩) N N, .slice (some ⟨bb, 0, none⟩) N N]) (by simp [results, Tryz.results30, go_sem, r0, r1]) rfl hP
  | true =>
    have HO := Lib.hid hO
    have hT : n.there s = true := by
      cases hT : n.there s with
      | true => rfl
      | false => rw [wt_not hT] at hO; cases hO
    obtain ⟨k, rfl, hk⟩ := there_of hT
    have hw : wN n k ≠ 1152921504606846976 := by rw [wt_at hk] at hO; simpa using hO
    have HW := Lib.hid hw
    rw [hN] at hk
    clear h hn hN hO hT hw
    go_enter Tryz.func30, Tryz.ntmps30
    go_wp2_with fail
    obtain ⟨W0, hW0⟩ := named (w.alloc (.cells #[.slice none 0 0, .slice none 0 0] 73))
    rw [← hW0]
    have hb0 : Below w.heap.size w W0 := by rw [hW0]; exact below_alloc1 _
    have K0 : Hid (Blk W0 w.heap.size #[.slice none 0 0, .slice none 0 0] 73) := by rw [hW0]; exact Lib.hid (Blk.new _ _ _ _ rfl)
    have HB0 := Lib.hid hb0
    clear hW0 hb0
    refine (wopen_is (HG.out.old HB0.out) k HO.out).mono ?_
    rintro e w1 ⟨rfl, hb1⟩
    have HB1 := Lib.hid (bOn6 HB0.out hb1)
    have K1 := Lib.hid (K0.out.keep hb1)
    clear hb1 HB0 K0
    go_wp2_with fail
    refine (grow_onward (HG.out.old HB1.out) HN.out HNN.out (L := onwL n) (by rw [← HNN.out]; exact onw_ok n) (fun w9 a ha hb => wonward_is ((HG.out.old HB1.out).old hb) HN.out (by rw [HNN.out]; exact ha)) k hk).mono ?_
    rintro e w2 ⟨cb, bb, C, B, rfl, kc, kbb, hc0, hb0, hcl, hbl, hq, hb2⟩
    have HKC := Lib.hid kc
    have HKB := Lib.hid kbb
    have HQ2 : Hid (WalkQ n (onwL n) N k C B) := Lib.hid (Or.inl ⟨k, rfl, hk, HW.out, hq⟩)
    have HLN : Hid (C.length = N ∧ B.length = N) := Lib.hid ⟨hcl, hbl⟩
    have HZ : Hid (w.heap.size ≤ cb ∧ w.heap.size ≤ bb) := Lib.hid (by have := HB1.out.size; omega)
    have HB2 := Lib.hid (bOn6 HB1.out hb2)
    have k2 := K1.out.keep hb2
    have K2 := Lib.hid k2
    obtain ⟨x0, x1, f0, f1⟩ := k2.o2
    have hlt := k2.lt
    clear kc kbb hc0 hb0 hcl hbl hq hb2 k2 K1 HB1 HW
    go_wp2_with fail
    obtain ⟨we, hwe⟩ := named ((w2.setCell ⟨w.heap.size, 0, none⟩ (.slice (some ⟨cb, 0, none⟩) N N)).setCell ⟨w.heap.size, 1, none⟩ (.slice (some ⟨bb, 0, none⟩) N N))
    rw [← hwe]
    have kr : Blk we w.heap.size #[.slice (some ⟨cb, 0, none⟩) N N, .slice (some ⟨bb, 0, none⟩) N N] 73 := by
      rw [hwe]
      have := (K2.out.set 0 (.slice (some ⟨cb, 0, none⟩) N N)).set 1 (.slice (some ⟨bb, 0, none⟩) N N)
      simpa using this
    have hkp : Keep (fun b => b ≠ w.heap.size) w2 we := by rw [hwe]; exact ((Keep.refl _ _).setCell (fun h => h rfl) _ _).setCell (fun h => h rfl) _ _
    have hP := (show GrowPost w N _ (.returned (.agg #[.slice (some ⟨cb, 0, none⟩) N N, .slice (some ⟨bb, 0, none⟩) N N])) we from
      ⟨cb, bb, C, B, rfl, hkp.blk HKC.out (blk_apart HKC.out K2.out (by decide)), hkp.blk HKB.out (blk_apart HKB.out K2.out (by decide)), HZ.out.1, HZ.out.2, HLN.out.1, HLN.out.2, HQ2.out, HB2.out.trans (hkp.below (fun b hb e => by omega) HB2.out.size)⟩)
    obtain ⟨r0, r1, -, -⟩ := kr.o2
    exact bodyPost_ret (v := .agg #[.slice (some ⟨cb, 0, none⟩) N N, .slice (some ⟨bb, 0, none⟩) N N]) (by simp [results, Tryz.results30, go_sem, r0, r1]) rfl hP

set_option maxHeartbeats 4000000 in
set_option maxRecDepth 100000 in
theorem walks_backward {P : Nat → Prop} {w : World} {p : Nat} {n : NetD} {va vt : Value} (h : GraphAt P w p n va vt) (hn : GrN n) {N : Nat} (hN : n.a.length = N) (s : Int) (s0 : -9223372036854775808 ≤ s) (s1 : s ≤ 9223372036854775807) :
    Calls Tryz.prog 30 #[gp p, .int .i64 s, .func (.func 32) #[] #[]] w (GrowPost w N (WalkQ n (bckL n) N s)) := by
  have HG := Lib.hid h
  have HN := Lib.hid hn
  have HNN := Lib.hid hN
  cases hO : (wt n s != 1152921504606846976) with
  | false =>
    have HO := Lib.hid hO
    have HQ : Hid (∀ k : Nat, s = k → k < N → wN n k = 1152921504606846976) := Lib.hid (fun k e hk => by
      subst e
      rw [wt_at (by rw [hN]; exact hk)] at hO
      simpa using hO)
    clear h hn hN hO
    go_enter Tryz.func30, Tryz.ntmps30
    go_wp2_with fail
    obtain ⟨W0, hW0⟩ := named (w.alloc (.cells #[.slice none 0 0, .slice none 0 0] 73))
    rw [← hW0]
    have hb0 : Below w.heap.size w W0 := by rw [hW0]; exact below_alloc1 _
    have K0 : Hid (Blk W0 w.heap.size #[.slice none 0 0, .slice none 0 0] 73) := by rw [hW0]; exact Lib.hid (Blk.new _ _ _ _ rfl)
    have HB0 := Lib.hid hb0
    clear hW0 hb0
    refine (wopen_is (HG.out.old HB0.out) s HO.out).mono ?_
    rintro e w1 ⟨rfl, hb1⟩
    have HB1 := Lib.hid (bOn6 HB0.out hb1)
    have K1 := Lib.hid (K0.out.keep hb1)
    clear hb1 HB0 K0
    go_wp2_with fail
    refine (grow_backward_none (HG.out.old HB1.out) HN.out HNN.out (-1) (Or.inl (by omega)) (by omega) (by omega)).mono ?_
    rintro e w2 ⟨cb, bb, C, B, rfl, kc, kbb, hc0, hb0, hcl, hbl, hq, hb2⟩
    have HKC := Lib.hid kc
    have HKB := Lib.hid kbb
    have HQ2 : Hid (WalkQ n (bckL n) N s C B) := Lib.hid (Or.inr ⟨HQ.out, hq⟩)
    have HLN : Hid (C.length = N ∧ B.length = N) := Lib.hid ⟨hcl, hbl⟩
    have HZ : Hid (w.heap.size ≤ cb ∧ w.heap.size ≤ bb) := Lib.hid (by have := HB1.out.size; omega)
    have HB2 := Lib.hid (bOn6 HB1.out hb2)
    have k2 := K1.out.keep hb2
    have K2 := Lib.hid k2
    obtain ⟨x0, x1, f0, f1⟩ := k2.o2
    have hlt := k2.lt
    clear kc kbb hc0 hb0 hcl hbl hq hb2 k2 K1 HB1 HQ
    go_wp2_with fail
    obtain ⟨we, hwe⟩ := named ((w2.setCell ⟨w.heap.size, 0, none⟩ (.slice (some ⟨cb, 0, none⟩) N N)).setCell ⟨w.heap.size, 1, none⟩ (.slice (some ⟨bb, 0, none⟩) N N))
    rw [← hwe]
    have kr : Blk we w.heap.size #[.slice (some ⟨cb, 0, none⟩) N N, .slice (some ⟨bb, 0, none⟩) N N] 73 := by
      rw [hwe]
      have := (K2.out.set 0 (.slice (some ⟨cb, 0, none⟩) N N)).set 1 (.slice (some ⟨bb, 0, none⟩) N N)
      simpa using this
    have hkp : Keep (fun b => b ≠ w.heap.size) w2 we := by rw [hwe]; exact ((Keep.refl _ _).setCell (fun h => h rfl) _ _).setCell (fun h => h rfl) _ _
    have hP := (show GrowPost w N _ (.returned (.agg #[.slice (some ⟨cb, 0, none⟩) N N, .slice (some ⟨bb, 0, none⟩) N N])) we from
      ⟨cb, bb, C, B, rfl, hkp.blk HKC.out (blk_apart HKC.out K2.out (by decide)), hkp.blk HKB.out (blk_apart HKB.out K2.out (by decide)), HZ.out.1, HZ.out.2, HLN.out.1, HLN.out.2, HQ2.out, HB2.out.trans (hkp.below (fun b hb e => by omega) HB2.out.size)⟩)
    obtain ⟨r0, r1, -, -⟩ := kr.o2
    exact bodyPost_ret (v := .agg #[.slice (some ⟨cb, 0, none⟩) N N, .slice (some ⟨bb, 0, none⟩) N N]) (by simp [results, Tryz.results30, go_sem, r0, r1]) rfl hP
  | true =>
    have HO := Lib.hid hO
    have hT : n.there s = true := by
      cases hT : n.there s with
      | true => rfl
      | false => rw [wt_not hT] at hO; cases hO
    obtain ⟨k, rfl, hk⟩ := there_of hT
    have hw : wN n k ≠ 1152921504606846976 := by rw [wt_at hk] at hO; simpa using hO
    have HW := Lib.hid hw
    rw [hN] at hk
    clear h hn hN hO hT hw
    go_enter Tryz.func30, Tryz.ntmps30
    go_wp2_with fail
    obtain ⟨W0, hW0⟩ := named (w.alloc (.cells #[.slice none 0 0, .slice none 0 0] 73))
    rw [← hW0]
    have hb0 : Below w.heap.size w W0 := by rw [hW0]; exact below_alloc1 _
    have K0 : Hid (Blk W0 w.heap.size #[.slice none 0 0, .slice none 0 0] 73) := by rw [hW0]; exact Lib.hid (Blk.new _ _ _ _ rfl)
    have HB0 := Lib.hid hb0
    clear hW0 hb0
    refine (wopen_is (HG.out.old HB0.out) k HO.out).mono ?_
    rintro e w1 ⟨rfl, hb1⟩
    have HB1 := Lib.hid (bOn6 HB0.out hb1)
    have K1 := Lib.hid (K0.out.keep hb1)
    clear hb1 HB0 K0
    go_wp2_with fail
    refine (grow_backward (HG.out.old HB1.out) HN.out HNN.out (L := bckL n) (by rw [← HNN.out]; exact bck_ok n) (fun w9 a ha hb => wbackward_is ((HG.out.old HB1.out).old hb) HN.out (by rw [HNN.out]; exact ha)) k hk).mono ?_
    rintro e w2 ⟨cb, bb, C, B, rfl, kc, kbb, hc0, hb0, hcl, hbl, hq, hb2⟩
    have HKC := Lib.hid kc
    have HKB := Lib.hid kbb
    have HQ2 : Hid (WalkQ n (bckL n) N k C B) := Lib.hid (Or.inl ⟨k, rfl, hk, HW.out, hq⟩)
    have HLN : Hid (C.length = N ∧ B.length = N) := Lib.hid ⟨hcl, hbl⟩
    have HZ : Hid (w.heap.size ≤ cb ∧ w.heap.size ≤ bb) := Lib.hid (by have := HB1.out.size; omega)
    have HB2 := Lib.hid (bOn6 HB1.out hb2)
    have k2 := K1.out.keep hb2
    have K2 := Lib.hid k2
    obtain ⟨x0, x1, f0, f1⟩ := k2.o2
    have hlt := k2.lt
    clear kc kbb hc0 hb0 hcl hbl hq hb2 k2 K1 HB1 HW
    go_wp2_with fail
    obtain ⟨we, hwe⟩ := named ((w2.setCell ⟨w.heap.size, 0, none⟩ (.slice (some ⟨cb, 0, none⟩) N N)).setCell ⟨w.heap.size, 1, none⟩ (.slice (some ⟨bb, 0, none⟩) N N))
    rw [← hwe]
    have kr : Blk we w.heap.size #[.slice (some ⟨cb, 0, none⟩) N N, .slice (some ⟨bb, 0, none⟩) N N] 73 := by
      rw [hwe]
      have := (K2.out.set 0 (.slice (some ⟨cb, 0, none⟩) N N)).set 1 (.slice (some ⟨bb, 0, none⟩) N N)
      simpa using this
    have hkp : Keep (fun b => b ≠ w.heap.size) w2 we := by rw [hwe]; exact ((Keep.refl _ _).setCell (fun h => h rfl) _ _).setCell (fun h => h rfl) _ _
    have hP := (show GrowPost w N _ (.returned (.agg #[.slice (some ⟨cb, 0, none⟩) N N, .slice (some ⟨bb, 0, none⟩) N N])) we from
      ⟨cb, bb, C, B, rfl, hkp.blk HKC.out (blk_apart HKC.out K2.out (by decide)), hkp.blk HKB.out (blk_apart HKB.out K2.out (by decide)), HZ.out.1, HZ.out.2, HLN.out.1, HLN.out.2, HQ2.out, HB2.out.trans (hkp.below (fun b hb e => by omega) HB2.out.size)⟩)
    obtain ⟨r0, r1, -, -⟩ := kr.o2
    exact bodyPost_ret (v := .agg #[.slice (some ⟨cb, 0, none⟩) N N, .slice (some ⟨bb, 0, none⟩) N N]) (by simp [results, Tryz.results30, go_sem, r0, r1]) rfl hP

set_option maxHeartbeats 4000000 in
set_option maxRecDepth 100000 in
theorem wFrom_is {P : Nat → Prop} {w : World} {p : Nat} {n : NetD} {va vt : Value} (h : GraphAt P w p n va vt) (hn : GrN n) (s : Int) (s0 : -9223372036854775808 ≤ s) (s1 : s ≤ 9223372036854775807) :
    Calls Tryz.prog 12 #[gp p, .int .i64 s] w (CostsPost w (FromP n s)) := by
  have hsh := hn.few.a
  obtain ⟨N, hN⟩ : ∃ N, n.a.length = N := ⟨_, rfl⟩
  have HC := Lib.hid (walks_onward h hn hN s s0 s1)
  have HN := Lib.hid hN
  clear h hn
  rw [hN] at hsh
  clear hN
  go_enter Tryz.func12, Tryz.ntmps12
  go_wp2_with fail
  refine HC.out.mono ?_
  rintro e w2 ⟨cb, bb, C, B, rfl, kc, -, -, -, hcl, -, hq, hb2⟩
  have HP : Hid (CostsPost w (FromP n s) (.returned (.slice (some ⟨cb, 0, none⟩) N N)) w2) := Lib.hid ⟨_, C, rfl, i64s_of_blk kc hcl (by omega), by
    have hN := HN.out
    subst hN
    exact WalkQ.from hq hcl, hb2⟩
  have hf := agg_field0 (.slice (some ⟨cb, 0, none⟩) N N) (.slice (some ⟨bb, 0, none⟩) N N) w2
  clear kc hcl hq hb2 HC
  go_wp2_with fail
  go_ret
  exact HP.out

set_option maxHeartbeats 4000000 in
set_option maxRecDepth 100000 in
theorem wTo_is {P : Nat → Prop} {w : World} {p : Nat} {n : NetD} {va vt : Value} (h : GraphAt P w p n va vt) (hn : GrN n) (s : Int) (s0 : -9223372036854775808 ≤ s) (s1 : s ≤ 9223372036854775807) :
    Calls Tryz.prog 13 #[gp p, .int .i64 s] w (CostsPost w (ToP n s)) := by
  have hsh := hn.few.a
  obtain ⟨N, hN⟩ : ∃ N, n.a.length = N := ⟨_, rfl⟩
  have HC := Lib.hid (walks_backward h hn hN s s0 s1)
  have HN := Lib.hid hN
  clear h hn
  rw [hN] at hsh
  clear hN
  go_enter Tryz.func13, Tryz.ntmps13
  go_wp2_with fail
  refine HC.out.mono ?_
  rintro e w2 ⟨cb, bb, C, B, rfl, kc, -, -, -, hcl, -, hq, hb2⟩
  have HP : Hid (CostsPost w (ToP n s) (.returned (.slice (some ⟨cb, 0, none⟩) N N)) w2) := Lib.hid ⟨_, C, rfl, i64s_of_blk kc hcl (by omega), by
    have hN := HN.out
    subst hN
    exact WalkQ.to hq hcl, hb2⟩
  have hf := agg_field0 (.slice (some ⟨cb, 0, none⟩) N N) (.slice (some ⟨bb, 0, none⟩) N N) w2
  clear kc hcl hq hb2 HC
  go_wp2_with fail
  go_ret
  exact HP.out

end Go.Proofs.YtgihaakgadmidaaGreat

/-
  The program's walks: which arcs can be reached; a least walk.
-/
namespace Go.Proofs.YtgihaakgadmidaaGreat
open HP Go.RowKit

/-! ### Reach -/
theorem infoBool : (Tryz.prog.info? 4).map (fun i => (i.zero, i.size, i.bytes)) = some (some (.bool false), 1, 1) := by kernel_rfl
/-- The marks so far. -/
def bitC (C : List Int) (k N : Nat) : Array Value := ((List.range N).map fun i => Value.bool (decide (i < k) && (ctL C i != 1152921504606846976))).toArray
theorem bitC_zero (C : List Int) (N : Nat) : bitC C 0 N = (List.replicate N (Value.bool false)).toArray := by
  unfold bitC
  congr 1
  refine List.ext_getElem (by simp) (fun i h1 h2 => by simp)
theorem bitC_set (C : List Int) (k N : Nat) : (bitC C k N).setIfInBounds k (.bool (ctL C k != 1152921504606846976)) = bitC C (k + 1) N := by
  unfold bitC
  rw [List.setIfInBounds_toArray]
  congr 1
  refine List.ext_getElem (by simp) (fun i h1 h2 => ?_)
  rw [List.getElem_set]
  simp only [List.getElem_map, List.getElem_range]
  by_cases e : k = i
  · subst e
    simp
  · rw [if_neg e]
    have : decide (i < k) = decide (i < k + 1) := decide_eq_decide.2 (by omega)
    rw [this]
theorem bitC_at (C : List Int) {i k N : Nat} (hi : i < N) : (bitC C k N)[i]? = some (Value.bool (decide (i < k) && (ctL C i != 1152921504606846976))) := by
  unfold bitC
  simp [hi]
/-- What Reach answers. -/
def reachL (C : List Int) : List Bool := C.map fun c => c != 1152921504606846976
def ReachPost (w : World) (n : NetD) (s : Int) (e : Ending) (w' : World) : Prop := ∃ v C, e = .returned v ∧ Bools w' v (reachL C) ∧ FromP n s C ∧ Below w.heap.size w w'
theorem bools_of_bit {w : World} {b N : Nat} {C : List Int} {t : TypeId} (h : Blk w b (bitC C N N) t) (hl : C.length = N) (hN : N ≤ 16384) : Bools w (.slice (some ⟨b, 0, none⟩) N N) (reachL C) := by
  subst hl
  refine Or.inr ⟨by simp [reachL]; omega, b, 0, C.length, by simp [reachL], by simp [reachL], fun i hi => ?_⟩
  have hi' : i < C.length := by simpa [reachL] using hi
  rw [Nat.zero_add, h.cell i (bitC_at C hi')]
  simp [reachL, ctL_at hi', hi']
/-- The loop's head. -/
def ReachRel (w0 : World) (C : List Int) (N b : Nat) (iv : Value) (wr : World) : Prop :=
  ∃ k : Nat, k ≤ N ∧ iv = .int .i64 k ∧ Blk wr b (bitC C k N) 4 ∧ Below w0.heap.size w0 wr

set_option maxHeartbeats 4000000 in
set_option maxRecDepth 100000 in
theorem wreach_is {P : Nat → Prop} {w : World} {p : Nat} {n : NetD} {va vt : Value} (h : GraphAt P w p n va vt) (hn : GrN n) (s : Int) (s0 : -9223372036854775808 ≤ s) (s1 : s ≤ 9223372036854775807) :
    Calls Tryz.prog 10 #[gp p, .int .i64 s] w (ReachPost w n s) := by
  have hsh := hn.few.a
  have HC := Lib.hid (wFrom_is h hn s s0 s1)
  clear h hn
  go_enter Tryz.func10, Tryz.ntmps10
  go_wp2_with fail
  refine HC.out.mono ?_
  rintro e w2 ⟨v, C, rfl, hv, hq, hb2⟩
  obtain ⟨N, hN⟩ : ∃ N, C.length = N := ⟨_, rfl⟩
  have hsN : N ≤ 16384 := by rw [← hN, hq.1]; omega
  obtain ⟨q, c, rfl⟩ := hv.shape
  have HV := Lib.hid hv
  have HQ := Lib.hid hq
  have HB2 := Lib.hid hb2
  have HN := Lib.hid hN
  rw [hN]
  rw [hN] at HV
  have hmk := HP.make1 w2 38 4 (.bool false) 1 rfl Tryz.underlying38 infoBool N hsN (by decide)
  obtain ⟨w3, hw3⟩ := named (w2.alloc (.cells (List.replicate N (.bool false)).toArray 4))
  have hb3 : Below w2.heap.size w2 w3 := by rw [hw3]; exact below_alloc1 _
  have k3 : Blk w3 w2.heap.size (bitC C 0 N) 4 := by rw [hw3, bitC_zero]; exact Blk.new _ _ _ _ rfl
  rw [← hw3] at hmk
  have HB3 := Lib.hid hb3
  have K3 := Lib.hid k3
  have HMK := Lib.hid hmk
  obtain ⟨rb, hrb⟩ : ∃ rb, w2.heap.size = rb := ⟨_, rfl⟩
  have HRB := Lib.hid hrb
  clear hv hq hb2 hN hw3 hb3 k3 HC hrb
  go_wp2_with fail
  clear hmk
  rw [HRB.out]
  rw [HRB.out] at K3
  go_loopw [7, 8, 17] (fun _ _ iv wr => ReachRel w2 C N rb iv wr) (fun _ _ iv _ => N - (intOf iv).toNat)
  case atStart => exact ⟨0, Nat.zero_le _, rfl, K3.out, HB3.out⟩
  case round =>
    obtain ⟨k, hk, rfl, hkb, hbr⟩ := hrel
    have HKB := Lib.hid hkb
    have HBR := Lib.hid hbr
    clear hkb hbr K3 HB3 HMK
    by_cases hlt : k < N
    · have hlt2 : k < C.length := by rw [HN.out]; exact hlt
      obtain ⟨b, o, rfl, hcell⟩ := (HV.out.below HBR.out).at hlt2
      obtain ⟨cv, hcv⟩ : ∃ cv, C[k] = cv := ⟨_, rfl⟩
      rw [hcv] at hcell
      have hct : ctL C k = cv := by rw [ctL_at hlt2]; exact hcv
      have hset := HKB.out.set k (.bool (ctL C k != 1152921504606846976))
      rw [bitC_set C k N, hct] at hset
      have HR : Hid (ReachRel w2 C N rb (.int .i64 ((k + 1 : Nat) : Int)) (wr.setCell ⟨rb, k, none⟩ (.bool (cv != 1152921504606846976)))) := Lib.hid ⟨k + 1, hlt, rfl, hset, HBR.out.setCell (by rw [HRB.out]; exact Nat.le_refl _) _⟩
      have hli : (k : Int) < (N : Int) := by omega
      obtain ⟨ov, hov⟩ : ∃ v, wr.cell? ⟨rb, k, none⟩ = some v := ⟨_, HKB.out.cell k (bitC_at C hlt)⟩
      have hof := HKB.out.free k
      have hbl := HKB.out.lt
      have hbl2 := World.block_lt_of_cell? wr _ hcell
      clear hcv hct hset hlt2
      go_wp2_with fail
      go_roundw
      case rel => exact HR.out
      case measure => simp [intOf]; omega
    · have hkn : k = N := by omega
      have HR : Hid (ReachPost w n s (.returned (.slice (some ⟨rb, 0, none⟩) N N)) wr) := Lib.hid ⟨_, C, rfl, bools_of_bit (by have := HKB.out; rw [hkn] at this; exact this) HN.out hsN, HQ.out, HB2.out.trans (HBR.out.mono HB2.out.size)⟩
      have hnl : decide (k < N) = false := by simpa using hlt
      clear hkn
      go_wp2_with fail
      go_ret
      exact HR.out

end Go.Proofs.YtgihaakgadmidaaGreat

/-
  The program's walks: a least walk between two arcs.
-/
namespace Go.Proofs.YtgihaakgadmidaaGreat
open HP Go.RowKit

/-- What is behind it in the row, from its end; -1: nothing. -/
def hdR : List Nat → Int
  | [] => -1
  | x :: _ => (x : Int)
theorem PathR.link {L : Nat → List It} {s b : Nat} {C B : List Int} {r : List Nat} (h : PathR L s C B b r) : ∀ (r1 : List Nat) (x : Nat) (q : List Nat), r = r1 ++ x :: q → ctB B x = hdR q := by
  induction h with
  | start hB =>
    intro r1 x q e
    cases r1 with
    | nil =>
      simp at e
      obtain ⟨rfl, rfl⟩ := e
      exact hB
    | cons y r1 => simp at e
  | @step a b r d h hb hd hx hB ih =>
    intro r1 x q e
    cases r1 with
    | nil =>
      simp at e
      obtain ⟨rfl, rfl⟩ := e
      obtain ⟨z, rfl⟩ := h.head
      exact hB
    | cons y r1 =>
      simp at e
      exact ih r1 x q e.2
/-- What Path tells. -/
def PathQ (n : NetD) (s t : Int) (l : List Int) (c : Int) : Prop :=
  ∃ C, FromP n s C ∧ ((∃ k j : Nat, s = k ∧ t = j ∧ k < n.a.length ∧ j < n.a.length ∧ wN n k ≠ 1152921504606846976 ∧ ctL C j < 1152921504606846976 ∧ c = ctL C j ∧ ∃ B r, ctL C k = 0 ∧ PathR (onwL n) k C B j r ∧ l = zL r.reverse) ∨
    ((∀ j : Nat, t = j → j < n.a.length → ctL C j = 1152921504606846976) ∧ l = [] ∧ c = 1152921504606846976))
def PathPost (w : World) (n : NetD) (s t : Int) (e : Ending) (w' : World) : Prop := ∃ v l c, e = .returned (.tuple #[v, .int .i64 c]) ∧ I64s w' v l ∧ PathQ n s t l c ∧ Below w.heap.size w w'
/-- One number, behind a row of one's own: the run of that append. -/
theorem app1 {t e : TypeId} (ht : Tryz.prog.underlying t = some (.slice e)) (hinf : (Tryz.prog.info? e).map (fun i => (i.zero, i.size, i.bytes)) = some (some (.int .i64 0), 1, 8)) {W : World} {base : Nat} {v : Value} {l : List Int} {x : Int} (h : W.ownsRow base e 1 v l.length (l.map (Value.int .i64))) {g : Nat} (hk : Blk W g #[.int .i64 x] e) (hl : l.length ≤ 100000) (hb : base ≤ W.heap.size) :
    ∃ q c w', (Builtin.append_ #[t, t] t #[v, .slice (some ⟨g, 0, none⟩) 1 1]).run Tryz.prog W = .ok (.slice q (l.length + 1) c) w' ∧ w'.ownsRow base e 1 (.slice q (l.length + 1) c) (l.length + 1) ((l ++ [x]).map (Value.int .i64)) ∧ W.grownBy w' v.ownBlock := by
  obtain ⟨i0, hi, hz0, hz1, hz2⟩ := info_parts hinf
  obtain ⟨v', w', hr, h1, h2, -⟩ := run_append_own (P := Tryz.prog) W base t t e i0 (.int .i64 0) 1 8 ht hi hz0 hz1 hz2 rfl (by decide) v l.length (l.map (Value.int .i64)) h ⟨g, 0, none⟩ 1 1 [.int .i64 x] rfl
    (fun j u hj => by
      obtain ⟨k0, -⟩ := hk.o1
      match j, hj with
      | 0, hj => simp at hj; subst hj; simpa [Addr.add] using k0) (by intro u hu; simp at hu; subst hu; rfl) (by simp [maxLen]; omega) (by omega) hb
  obtain ⟨q, c, rfl⟩ := own_shape h1
  exact ⟨q, c, w', hr, by rw [List.map_append]; exact h1, h2⟩
/-- How long a row is. -/
def lenS : Value → Nat
  | .slice _ n _ => n
  | _ => 0
/-- The loop's head. -/
def PathRel (w0 : World) (r : List Nat) (v9 v10 : Value) (wr : World) : Prop :=
  ∃ r1 r2, r = r1 ++ r2 ∧ v10 = .int .i64 (hdR r2) ∧ wr.ownsRow w0.heap.size 3 1 v9 (zL r1).length ((zL r1).map (Value.int .i64)) ∧ Below w0.heap.size w0 wr
theorem reversed {w w' : World} {g n cap : Nat} {l : List Int} (hH : Go.Sort.Holds (Value.int .i64) w g 0 l.toArray) (hn : l.length = n) (hc : n ≤ cap) (hcm : cap ≤ 9223372036854775807) (hw : ∃ k, w' = Go.Sort.putRow (Value.int .i64) (Go.Sort.ahead w k) g 0 l.reverse.toArray) {B : Nat} {w0 : World} (hb : Below B w0 w) (hg : B ≤ g) :
    I64s w' (.slice (some ⟨g, 0, none⟩) n cap) l.reverse ∧ Below B w0 w' := by
  obtain ⟨k, rfl⟩ := hw
  have h2 := Go.Sort.holds_putRow (Value.int .i64) (Go.Sort.ahead w k) g 0 l.toArray l.reverse.toArray (Go.Sort.holds_ahead _ _ _ _ _ _ hH) (by simp)
  refine ⟨Or.inr ⟨by simp; omega, g, 0, cap, by simp; omega, hcm, by simp [hn], fun i hi => ?_⟩, ⟨hb.os, hb.tape, hb.output, by simpa using hb.size, fun b hlt => ?_⟩⟩
  · have := (h2 i (by simpa using hi)).1
    rw [this]
    congr 2
    rw [getElem!_pos _ i (by simpa using hi)]
    simp
  · have hne : b ≠ g := by omega
    have e : (Go.Sort.putRow (Value.int .i64) (Go.Sort.ahead w k) g 0 l.reverse.toArray).heap[b]? = w.heap[b]? := by
      simp only [Go.Sort.putRow, Go.Sort.mapBlock, Array.getElem?_modify]
      rw [if_neg (fun e => hne e.symm)]
      rfl
    rw [e]
    exact hb.block b hlt
section
variable {P : Nat → Prop} {w : World} {p : Nat} {n : NetD} {va vt : Value}

set_option maxHeartbeats 4000000 in
set_option maxRecDepth 100000 in
theorem wpath_is (h : GraphAt P w p n va vt) (hn : GrN n) (s t : Int) (s0 : -9223372036854775808 ≤ s) (s1 : s ≤ 9223372036854775807) (t0 : -9223372036854775808 ≤ t) (t1 : t ≤ 9223372036854775807) :
    Calls Tryz.prog 15 #[gp p, .int .i64 s, .int .i64 t] w (PathPost w n s t) := by
  have hsh := hn.few.a
  obtain ⟨N, hN⟩ : ∃ N, n.a.length = N := ⟨_, rfl⟩
  have HC := Lib.hid (walks_onward h hn hN s s0 s1)
  have HN := Lib.hid hN
  clear h hn
  rw [hN] at hsh
  clear hN
  go_enter Tryz.func15, Tryz.ntmps15
  go_wp2_with fail
  refine HC.out.mono ?_
  rintro e w2 ⟨cb, bb, C, B, rfl, kc, kbb, hc0, hb0, hcl, hbl, hq, hb2⟩
  have HKC := Lib.hid kc
  have HKB := Lib.hid kbb
  have HQ := Lib.hid hq
  have HB2 := Lib.hid hb2
  have HCL := Lib.hid hcl
  have HBL := Lib.hid hbl
  have HF : Hid (FromP n s C) := Lib.hid (by
    have hN := HN.out
    subst hN
    exact WalkQ.from hq hcl)
  clear kc kbb hc0 hb0 hcl hbl hq hb2 HC
  obtain ⟨tb, htb⟩ : ∃ tb, w2.heap.size = tb := ⟨_, rfl⟩
  obtain ⟨w3, hw3⟩ := named (w2.alloc (.cells #[.slice (some ⟨cb, 0, none⟩) N N, .slice (some ⟨bb, 0, none⟩) N N] 73))
  have hb3 : Below w2.heap.size w2 w3 := by rw [hw3]; exact below_alloc1 _
  have k3 : Blk w3 tb #[.slice (some ⟨cb, 0, none⟩) N N, .slice (some ⟨bb, 0, none⟩) N N] 73 := by rw [hw3]; exact Blk.new _ _ _ _ htb
  have HT : Hid (TreeAt w3 N tb cb bb C B) := Lib.hid ⟨k3, HKC.out.keep hb3, HKB.out.keep hb3, HCL.out, HBL.out⟩
  have HB3 := Lib.hid (bOn6 HB2.out hb3)
  have HW3 := Lib.hid hw3
  have HTB := Lib.hid htb
  clear hb3 k3 hw3 htb HKC HKB HB2
  by_cases ht : 0 ≤ t ∧ t < N
  · obtain ⟨ht0, htn⟩ := ht
    obtain ⟨j, rfl⟩ : ∃ j : Nat, t = j := ⟨t.toNat, by omega⟩
    have hj : j < N := by omega
    have hjl : j < C.length := by rw [HCL.out]; exact hj
    obtain ⟨cv, hcv⟩ : ∃ cv, ctL C j = cv := ⟨_, rfl⟩
    have hcell : w3.cell? ⟨cb, j, none⟩ = some (.int .i64 cv) := by rw [← hcv, ctL_at hjl]; exact HT.out.c.cell j (numC_at hjl)
    have hcbl := HT.out.c.lt
    obtain ⟨x0, x1, -, -⟩ := HT.out.t.o2
    have htbl := HT.out.t.lt
    have HCV := Lib.hid hcv
    clear hcv hjl
    by_cases hi : cv = 1152921504606846976
    · have HP : Hid (PathPost w n s j (.returned (.tuple #[.slice none 0 0, .int .i64 1152921504606846976])) w3) := Lib.hid ⟨_, [], _, rfl, Or.inl ⟨rfl, none, 0, rfl, fun _ => rfl⟩, ⟨C, HF.out, Or.inr ⟨fun i e _ => by
        obtain rfl : j = i := by omega
        rw [HCV.out, hi], rfl, rfl⟩⟩, HB3.out⟩
      have hi1 : (cv == 1152921504606846976) = true := by simpa using hi
      clear hi
      have e3 := HW3.out.symm
      have etb := HTB.out
      go_wp2_with fail
      go_ret2
      exact HP.out
    · have hi1 : (cv == 1152921504606846976) = false := by simpa using hi
      have hlt : cv < 1152921504606846976 := by
        have := HF.out.bd j (by rw [HN.out]; exact hj)
        rw [HCV.out] at this
        omega
      have hq := HQ.out
      rcases hq with ⟨k, rfl, hk, hw, hout⟩ | ⟨-, rfl⟩
      · obtain ⟨r, hr⟩ := hout.path hj (by rw [HCV.out]; exact hlt)
        have HR := Lib.hid hr
        have HST : Hid (ctL C k = 0) := Lib.hid hout.start
        have HLT : Hid (∀ x, x ∈ r → x < N) := Lib.hid ((hr.lt (by have := onw_ok n; rw [HN.out] at this; exact this) hk).2)
        have HLK := Lib.hid hr.link
        have HLEN : Hid (r.length ≤ N) := Lib.hid (by
          have := (hr.nodup).length_le_of_subset (l₂ := List.range N) (fun x hx => by simpa using HLT.out x hx)
          simpa using this)
        have HW := Lib.hid hw
        have HCLT := Lib.hid hlt
        obtain ⟨r', hr'⟩ := hr.head
        have HHD : Hid (hdR r = (j : Int)) := Lib.hid (by rw [hr']; rfl)
        have HNE : Hid (0 < r.length) := Lib.hid (by rw [hr']; simp)
        have e3 := HW3.out.symm
        have etb := HTB.out
        have hd1 : decide ((j : Int) < 0) = false := by simp
        have hd2 : decide (N ≤ j) = false := by simpa using hj
        clear hr hout hw hlt hi hr'
        go_wp2_with fail
        clear e3 etb hcell x0 x1
        go_loopw [9, 10] (fun v9 v10 wr => PathRel w3 r v9 v10 wr) (fun v9 _ _ => N - lenS v9)
        case atStart => exact ⟨[], r, rfl, by rw [HHD.out], World.ownsRow_nil _ _ _ _, Below.refl _ _⟩
        case round =>
          obtain ⟨r1, r2, hr12, rfl, hown, hbr⟩ := hrel
          obtain ⟨wo, rfl⟩ : ∃ wo : World, wo = wr := ⟨_, rfl⟩
          obtain ⟨q9, c9, rfl⟩ := own_shape hown
          have HO := Lib.hid hown
          have HBR := Lib.hid hbr
          have HTR := Lib.hid (HT.out.old hbr)
          clear hown hbr
          cases r2 with
          | cons x q =>
            have hxr : x ∈ r := by rw [hr12]; simp
            have hxN := HLT.out x hxr
            have hll : r1.length + 1 ≤ N := by
              have h1 := HLEN.out
              rw [hr12, List.length_append, List.length_cons] at h1
              omega
            have HLX : Hid (ctB B x = hdR q) := Lib.hid (HLK.out r1 x q hr12)
            have HR12 : Hid (r = (r1 ++ [x]) ++ q) := Lib.hid (by rw [hr12]; simp)
            have HZL : Hid (zL (r1 ++ [x]) = zL r1 ++ [(x : Int)]) := Lib.hid (by simp [zL])
            have HZN : Hid ((zL r1).length = r1.length) := Lib.hid (zL_length r1)
            obtain ⟨W4, hW4⟩ := named (wo.alloc (.cells #[.int .i64 x] 3))
            have hb4 : Below wo.heap.size wo W4 := by rw [hW4]; exact below_alloc1 _
            have hk4 : Blk W4 wo.heap.size #[.int .i64 x] 3 := by rw [hW4]; exact Blk.new _ _ _ _ rfl
            obtain ⟨q2, c2, w5, hr5, hown5, hgrow⟩ := app1 (x := (x : Int)) Tryz.underlying43 HP.infoInt (owns_keep (P := fun _ => True) HO.out (Keep.of hb4) (fun _ _ => trivial)) hk4 (by rw [HZN.out]; omega) (by have := HBR.out.size; have := hb4.size; omega)
            have hb5 : Below w3.heap.size w3 w5 := below_grownO (bOn6 HBR.out hb4) hgrow (fun g hg => own_ge HO.out g hg)
            have HB5 := Lib.hid hb5
            have HO5 : Hid (w5.ownsRow w3.heap.size 3 1 (.slice q2 (r1.length + 1) c2) (zL (r1 ++ [x])).length ((zL (r1 ++ [x])).map (Value.int .i64))) := Lib.hid (by
              rw [HZL.out, List.length_append, HZN.out]
              rw [HZN.out] at hown5
              exact hown5)
            have hT5 := HT.out.old hb5
            obtain ⟨x0, x1, -, -⟩ := hT5.t.o2
            have htl := hT5.t.lt
            obtain ⟨y, hy⟩ : ∃ y, hdR q = y := ⟨_, rfl⟩
            have hxb : x < B.length := by rw [HBL.out]; exact hxN
            have hbc : w5.cell? ⟨bb, x, none⟩ = some (.int .i64 y) := by
              have h1 := HLX.out
              rw [ctB_at hxb, hy] at h1
              rw [← h1]
              exact hT5.b.cell x (numC_at hxb)
            have hbl := hT5.b.lt
            have HY := Lib.hid hy
            have hxi : (x : Int) < (N : Int) := by omega
            have hne : ((x : Int) != -1) = true := by simp
            rw [HZN.out]
            rw [HZN.out, hW4] at hr5
            have HR5 := Lib.hid hr5
            have hdx : hdR (x :: q) = (x : Int) := rfl
            rw [hdx]
            clear hr12 hxr hW4 hb4 hk4 hr5 hown5 hgrow hb5 hT5 hy hxb hdx HTR
            go_wp2_with (at_builtin; refine wpList_append_run (by rfl) _ _ _ rfl _ _ _ rfl rfl HR5.out ?_)
            go_roundw
            case rel => exact ⟨r1 ++ [x], q, HR12.out, by rw [HY.out], HO5.out, HB5.out⟩
            case measure => simp [lenS]; omega
          | nil =>
            rw [List.append_nil] at hr12
            subst hr12
            have hd0 : hdR [] = -1 := rfl
            rw [hd0]
            have HZN : Hid ((zL r).length = r.length) := Lib.hid (zL_length r)
            have hpos := HNE.out
            have hlen := HLEN.out
            have hO := HO.out
            rcases hO.2 with ⟨_, e0⟩ | ⟨g, cap, cur, e, hg, hh, hnc, hcm, hsz, -⟩
            · rw [HZN.out] at e0; omega
            injection e with e1 e2 e3
            subst e1
            subst e3
            unfold maxLen at hcm
            have HHO : Hid (Go.Sort.Holds (Value.int .i64) wo g 0 (zL r).toArray) := Lib.hid (fun i hi => by
              have hi' : i < (zL r).length := by simpa using hi
              refine ⟨?_, frozen_of_row wo g _ _ _ hh⟩
              rw [Nat.zero_add, hO.cellAt i (by simpa using hi'), getElem!_pos _ i hi, List.getElem?_map, List.getElem?_eq_getElem hi']
              simp)
            have hz64 : (zL r).length ≤ 9223372036854775807 := by rw [HZN.out]; omega
            have HNC : Hid ((zL r).length ≤ c9) := Lib.hid hnc
            have HG : Hid (w3.heap.size ≤ g) := Lib.hid hg
            have HCM : Hid (c9 ≤ 9223372036854775807) := Lib.hid (by omega)
            clear hO hh hnc hsz hd0 e2 hg
            go_wp2_with fail
            refine (Tryz.slices_Reverse_int g 0 c9 (zL r) wo HHO.out hz64).mono ?_
            rintro e w6 ⟨rfl, hw6⟩
            obtain ⟨hi6, hb6⟩ := reversed HHO.out rfl HNC.out HCM.out hw6 HBR.out HG.out
            have hT6 := HT.out.old hb6
            obtain ⟨x0, x1, -, -⟩ := hT6.t.o2
            have htl := hT6.t.lt
            have hjl : j < C.length := by rw [HCL.out]; exact hj
            have hcc : w6.cell? ⟨cb, j, none⟩ = some (.int .i64 cv) := by rw [← HCV.out, ctL_at hjl]; exact hT6.c.cell j (numC_at hjl)
            have hcl2 := hT6.c.lt
            have hji : (j : Int) < (N : Int) := by omega
            have HP : Hid (∀ m, PathPost w n k j (.returned (.tuple #[.slice (some ⟨g, 0, none⟩) (zL r).length c9, .int .i64 cv])) (w6.drewN m)) := Lib.hid (fun m => ⟨_, _, _, rfl, hi6.below (below_drewN (Below.refl _ _) m), ⟨C, HF.out, Or.inl ⟨k, j, rfl, rfl, by rw [HN.out]; exact hk, by rw [HN.out]; exact hj, HW.out, by rw [HCV.out]; exact HCLT.out, HCV.out.symm, B, r, HST.out, HR.out, by simp [zL]⟩⟩, below_drewN (bOn6 HB3.out hb6) m⟩)
            clear hw6 hi6 hb6 hT6 hjl
            go_wp2_with fail
            go_quiet (fail)
            go_wp2_with fail
            go_ret2
            exact HP.out _
      · rw [ctL_rep] at HCV
        exact absurd HCV.out.symm (by omega)
  · have hg : t < 0 ∨ (N : Int) ≤ t := by omega
    have HP : Hid (PathPost w n s t (.returned (.tuple #[.slice none 0 0, .int .i64 1152921504606846976])) w3) := Lib.hid ⟨_, [], _, rfl, Or.inl ⟨rfl, none, 0, rfl, fun _ => rfl⟩, ⟨C, HF.out, Or.inr ⟨fun i e hi => by rw [HN.out] at hi; omega, rfl, rfl⟩⟩, HB3.out⟩
    obtain ⟨x0, x1, -, -⟩ := HT.out.t.o2
    have htbl := HT.out.t.lt
    have e3 := HW3.out.symm
    have etb := HTB.out
    by_cases h0 : t < 0
    · go_wp2_with fail
      go_ret2
      exact HP.out
    · have h1 : (N : Int) ≤ t := by omega
      have h2 : decide (t < 0) = false := by simpa using h0
      have h3 : decide ((N : Int) ≤ t) = true := by simpa using h1
      clear hg ht
      go_wp2_with fail
      go_ret2
      exact HP.out
end

end Go.Proofs.YtgihaakgadmidaaGreat

/-
  What Path tells, looked at: it starts and ends where it must, no arc is twice in it, and it costs the least: plain mathematics.
-/
namespace Go.Proofs.YtgihaakgadmidaaGreat
open HP Go.RowKit

theorem PathQ.way {n : NetD} {s t : Int} {l : List Int} {c : Int} (h : PathQ n s t l c) (hc : c ≠ 1152921504606846976) : 0 < l.length ∧ l.length ≤ n.a.length ∧ l.getD 0 0 = s ∧ l.getD (l.length - 1) 0 = t ∧ n.cost l = c ∧ l.Nodup := by
  obtain ⟨C, hF, ⟨k, j, rfl, rfl, hk, hj, hw, hlt, rfl, B, r, h0, hr, rfl⟩ | ⟨-, -, h2⟩⟩ := h
  · obtain ⟨e1, e2, e3, e4, e5⟩ := hr.cost h0
    have hle : r.length ≤ n.a.length := by
      have h9 := (hr.lt (onw_ok n) hk).2
      have := (hr.nodup).length_le_of_subset (l₂ := List.range n.a.length) (fun x hx => by simpa using h9 x hx)
      simpa using this
    refine ⟨by omega, by omega, e3, by rw [e1]; exact e4, ?_, ?_⟩
    · rw [cost_open (by omega) (stepOK_zero.2 (by rw [e3, wt_at hk]; exact hw)), e1]
      exact e5
    · unfold zL
      refine List.pairwise_map.2 (List.pairwise_reverse.2 (List.Pairwise.imp ?_ hr.nodup))
      intro a b hab hc
      exact hab (by omega)
  · exact absurd h2 hc
theorem PathQ.none {n : NetD} {s t : Int} {l : List Int} (h : PathQ n s t l 1152921504606846976) : l = [] := by
  obtain ⟨C, hF, ⟨k, j, -, -, -, -, -, hlt, hc, -⟩ | ⟨-, h2, -⟩⟩ := h
  · omega
  · exact h2
theorem PathQ.dist {n : NetD} {s : Int} {j : Nat} {l : List Int} {c : Int} {d : List Int} (h : PathQ n s j l c) (hd : FromP n s d) (hj : j < n.a.length) : c = ctL d j := by
  obtain ⟨C, hF, ⟨k, j', -, hj', -, -, -, -, rfl, -⟩ | ⟨h1, -, rfl⟩⟩ := h
  · obtain rfl : j = j' := by omega
    rw [hF.uniq hd]
  · rw [← hF.uniq hd]
    exact (h1 j rfl hj).symm
theorem PathQ.dist_out {n : NetD} {s t : Int} {l : List Int} {c : Int} (h : PathQ n s t l c) (ht : n.there t = false) : c = 1152921504606846976 := by
  obtain ⟨C, hF, ⟨k, j, -, rfl, -, hj, -⟩ | ⟨-, -, rfl⟩⟩ := h
  · rw [there_at hj] at ht
    cases ht
  · rfl
/-- No number of a row in which none is twice stands among those ahead of it. -/
theorem nodup_place {l : List Int} (h : l.Nodup) {i : Nat} (hi : i < l.length) : placeL (l.take i) (l.getD i 0) = -1 := by
  have hn : l.getD i 0 ∉ l.take i := by
    intro hm
    obtain ⟨k, hk, e⟩ := List.mem_iff_getElem.1 hm
    simp only [List.length_take] at hk
    have hki : k < i := by omega
    rw [List.getElem_take] at e
    have hp := List.pairwise_iff_getElem.1 h k i (by omega) hi hki
    apply hp
    rw [e]
    simp [hi]
  exact placeFrom_none 0 _ _ fun y hy e => hn (e ▸ hy)
end Go.Proofs.YtgihaakgadmidaaGreat
