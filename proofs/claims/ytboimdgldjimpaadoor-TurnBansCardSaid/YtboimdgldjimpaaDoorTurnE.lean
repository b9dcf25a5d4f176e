/-
  Tables that are made: the document's own, and the program's.
-/
import Derived.Test.YtboimdgldjimpaaDoorTurnD
import Derived.Test.YtboimdgldjimpaaDoorBackM
import Derived.Test.YtboimdgldjimpaaDoorCarry
import Derived.RegionTactic
namespace Go.Proofs.YtboimdgldjimpaaDoor
open Go.RowKit

/-- What the document's Free answers where there is one. -/
def RFreePost (I O : Int) (l : List Int) (w : World) (ev : Ending) (w' : World) : Prop := ∃ tv wv, ev = .returned (.tuple #[tv, wv]) ∧ TabO w' w.heap.size tv I O l ∧ WrongV w' wv [] 0 ∧ Below w.heap.size w w'

theorem WrongV.none {w : World} {v : Value} {e : Int} (h : WrongV w v [] e) : ∃ q c, v = .agg #[.slice q 0 c, .int .i64 e] := by
  obtain ⟨sv, rfl, ⟨_, rfl⟩ | ⟨_, b, o, c, rfl, _⟩⟩ := h
  · exact ⟨_, _, rfl⟩
  · exact ⟨_, _, rfl⟩
theorem wrong_nil (w : World) (q : Option Addr) (c : Nat) (e : Int) (h : q = none → c = 0) : WrongV w (.agg #[.slice q 0 c, .int .i64 e]) [] e ∨ ∃ a, q = some a ∧ a.spot ≠ none := by
  cases q with
  | none => obtain rfl := h rfl; exact Or.inl ⟨_, rfl, Or.inl ⟨rfl, rfl⟩⟩
  | some a =>
    obtain ⟨b, o, sp⟩ := a
    cases sp with
    | none => exact Or.inl ⟨_, rfl, Or.inr ⟨by simp, b, o, c, rfl, fun i h => by simp at h, fun i h => by simp at h⟩⟩
    | some s => exact Or.inr ⟨_, rfl, by simp⟩
/-- A Wrong of no part hangs on no memory. -/
theorem WrongV.any {w w' : World} {v : Value} {e : Int} (h : WrongV w v [] e) : WrongV w' v [] e := by
  obtain ⟨sv, rfl, ⟨h0, rfl⟩ | ⟨h0, b, o, c, rfl, _⟩⟩ := h
  · exact ⟨_, rfl, Or.inl ⟨rfl, rfl⟩⟩
  · exact ⟨_, rfl, Or.inr ⟨h0, b, o, c, rfl, fun i h => by simp at h, fun i h => by simp at h⟩⟩
theorem owns_below {w w' : World} {base : Nat} {e : TypeId} {size : Nat} {v : Value} {n : Nat} {xs : List Value} (h : w.ownsRow base e size v n xs) (hb : Below w.heap.size w w') : w'.ownsRow base e size v n xs :=
  h.kept (row := none) ⟨hb.os, hb.tape, hb.output, hb.size, fun k hk _ => hb.block k hk⟩ (by
    cases hv : v.ownBlock with
    | none => exact Or.inl rfl
    | some k => exact Or.inr (by simp))
theorem owns_setCell_ne {w : World} {base : Nat} {e : TypeId} {size : Nat} {g cap m : Nat} {n : Nat} {xs : List Value} (h : w.ownsRow base e size (.slice (some ⟨g, 0, none⟩) m cap) n xs) {k : Nat} (o : Nat) (u : Value) (hk : k ≠ g) : (w.setCell ⟨k, o, none⟩ u).ownsRow base e size (.slice (some ⟨g, 0, none⟩) m cap) n xs :=
  h.kept (row := some k) ⟨rfl, rfl, rfl, by simp, fun i _ hi => heap_setCell_other w ⟨k, o, none⟩ i u (fun e => hi (by simp [e]))⟩ (Or.inr (by simp [Value.ownBlock]; exact fun e => hk e.symm))

theorem WrongV.only {w w' : World} {ks : List Nat} {v : Value} {ps : List (ByteArray × Int)} {e : Int} (h : WrongV w v ps e) (ho : Only ks w w') (hs : NoStr w ks) : WrongV w' v ps e := by
  obtain ⟨sv, h0, h1⟩ := h
  refine ⟨sv, h0, ?_⟩
  rcases h1 with h1 | ⟨hl, b, o, c, h1, h2, h3⟩
  · exact Or.inl h1
  · refine Or.inr ⟨hl, b, o, c, h1, fun i h => ?_, fun i h => ?_⟩
    · rw [ho.cell (fun hm => hs b hm _ _ (h2 i h))]; exact h2 i h
    · rw [ho.cell (fun hm => hs b hm _ _ (h2 i h))]; exact h3 i h

set_option maxHeartbeats 1000000 in
set_option maxRecDepth 100000 in
theorem rfree_ok (I O : Int) (w : World) (h0 : ¬ (I < 0 ∨ 16 < I)) (h1 : ¬ (O < 0 ∨ 16 < O)) :
    Calls Tryd.prog 23 #[.int .i64 I, .int .i64 O] w (RFreePost I O (List.replicate (I * O).toNat 0) w) := by
  obtain ⟨s0, s1⟩ := size_le (I := I) (O := O) ⟨by omega, by omega, by omega, by omega⟩
  have hmk := run_make64 (I * O) s0 (by omega)
  have q0 : decide (0 ≤ I) = true := by simp; omega
  have q1 : decide (I ≤ 16) = true := by simp; omega
  have q2 : decide (0 ≤ O) = true := by simp; omega
  have q3 : decide (O ≤ 16) = true := by simp; omega
  have HCK := Lib.hid (chkT_mk (I := I) (O := O) (l := List.replicate (I * O).toNat 0) (by omega) (by omega) (by simp; omega) (replicate_wgt _))
  go_enter Tryd.func23, Tryd.ntmps23
  go_wp2_with fail
  obtain ⟨w4, hw4⟩ : ∃ w4, w4 = ((((w.alloc (.cells #[.int .i64 0, .int .i64 0, .slice none 0 0] 24)).alloc (.cells #[.slice none 0 0, .int .i64 0] 28)).alloc (.cells #[.int .i64 I, .int .i64 O, .slice (some ⟨w.heap.size + 1 + 1 + 1, 0, none⟩) (I * O).toNat (I * O).toNat] 24)).alloc (.cells (madeCells #[.int .i64 0] (I * O).toNat) 2)) := ⟨_, rfl⟩
  rw [← hw4]
  have hown : w4.ownsRow w.heap.size 2 1 (.slice (some ⟨w.heap.size + 1 + 1 + 1, 0, none⟩) (I * O).toNat (I * O).toNat) (List.replicate (I * O).toNat (0 : Int)).length ((List.replicate (I * O).toNat (0 : Int)).map (Value.int .i64)) := by
    rw [hw4]; exact owns_made _ _ (by omega) _ (by simp; omega) _ (by simp)
  have hz4 : w4.heap.size = w.heap.size + 1 + 1 + 1 + 1 := by rw [hw4]; simp
  have hb4 : Below w.heap.size w w4 := by rw [hw4]; exact below_alloc4 _ _ _ _
  have a0 : w4.cell? ⟨w.heap.size + 1 + 1, 0, none⟩ = some (.int .i64 I) := by rw [hw4]; go_simp
  have a1 : w4.cell? ⟨w.heap.size + 1 + 1, 1, none⟩ = some (.int .i64 O) := by rw [hw4]; go_simp
  have a2 : w4.cell? ⟨w.heap.size + 1 + 1, 2, none⟩ = some (.slice (some ⟨w.heap.size + 1 + 1 + 1, 0, none⟩) (I * O).toNat (I * O).toNat) := by rw [hw4]; go_simp
  have r0 : w4.cell? ⟨w.heap.size, 0, none⟩ = some (.int .i64 0) := by rw [hw4]; go_simp
  have r1 : w4.cell? ⟨w.heap.size, 1, none⟩ = some (.int .i64 0) := by rw [hw4]; go_simp
  have r2 : w4.cell? ⟨w.heap.size, 2, none⟩ = some (.slice none 0 0) := by rw [hw4]; go_simp
  have e0 : w4.cell? ⟨w.heap.size + 1, 0, none⟩ = some (.slice none 0 0) := by rw [hw4]; go_simp
  have e1 : w4.cell? ⟨w.heap.size + 1, 1, none⟩ = some (.int .i64 0) := by rw [hw4]; go_simp
  have f0 : w4.frozen? ⟨w.heap.size, 0, none⟩ = false := by rw [hw4]; go_simp
  have f1 : w4.frozen? ⟨w.heap.size, 1, none⟩ = false := by rw [hw4]; go_simp
  have f2 : w4.frozen? ⟨w.heap.size, 2, none⟩ = false := by rw [hw4]; go_simp
  have f3 : w4.frozen? ⟨w.heap.size + 1, 0, none⟩ = false := by rw [hw4]; go_simp
  have f4 : w4.frozen? ⟨w.heap.size + 1, 1, none⟩ = false := by rw [hw4]; go_simp
  have hi64 := i64s_of_owns hown (by rw [List.length_replicate]; omega)
  have hin : In64 (List.replicate (I * O).toNat (0 : Int)) := by
    intro x hx
    obtain rfl := List.eq_of_mem_replicate hx
    omega
  have HO := Lib.hid hown
  have HI := Lib.hid hi64
  clear hw4 hown hi64 hmk
  refine (rcheck_any I O _ _ _ HI.out hin).mono ?_
  rw [HCK.out]
  rintro e w5 ⟨wv, rfl, hW, hb⟩
  have hW' : WrongV w5 wv [] 0 := hW
  obtain ⟨wq, wc, rfl⟩ := hW'.none
  have z5 : w.heap.size + 1 + 1 + 1 + 1 ≤ w5.heap.size := by have := hb.size; omega
  have b0 := keep hb a0
  have b1 := keep hb a1
  have b2 := keep hb a2
  have s0 := keep hb r0
  have s1 := keep hb r1
  have s2 := keep hb r2
  have s3 := keep hb e0
  have s4 := keep hb e1
  have g0 := carryF hb f0 (by omega)
  have g1 := carryF hb f1 (by omega)
  have g2 := carryF hb f2 (by omega)
  have g3 := carryF hb f3 (by omega)
  have g4 := carryF hb f4 (by omega)
  have HO5 := Lib.hid (owns_below HO.out hb)
  have HB5 : Hid (Below w.heap.size w w5) := Lib.hid (hb4.trans (hb.mono (by omega)))
  have HW5 := Lib.hid hW'
  clear a0 a1 a2 r0 r1 r2 e0 e1 f0 f1 f2 f3 f4 hb hW hW' hb4 hz4 HO
  go_wp2_with fail
  obtain ⟨w6, hw6⟩ := named (w5.alloc (.cells #[.slice wq 0 wc, .int .i64 0] 28))
  rw [← hw6]
  have hb6 : Below w5.heap.size w5 w6 := by rw [hw6]; exact below_alloc1 _
  have k0 : w6.cell? ⟨w5.heap.size, 0, none⟩ = some (.slice wq 0 wc) := by rw [hw6]; go_simp
  have k1 : w6.cell? ⟨w5.heap.size, 1, none⟩ = some (.int .i64 0) := by rw [hw6]; go_simp
  have c0 := keep hb6 b0
  have c1 := keep hb6 b1
  have c2 := keep hb6 b2
  have t0 := keep hb6 s0
  have t1 := keep hb6 s1
  have t2 := keep hb6 s2
  have t3 := keep hb6 s3
  have t4 := keep hb6 s4
  have h0 := carryF hb6 g0 (by omega)
  have h1 := carryF hb6 g1 (by omega)
  have h2 := carryF hb6 g2 (by omega)
  have h3 := carryF hb6 g3 (by omega)
  have h4 := carryF hb6 g4 (by omega)
  have HO6 := Lib.hid (owns_below HO5.out hb6)
  have HB6 : Hid (Below w.heap.size w w6) := Lib.hid (HB5.out.trans (hb6.mono (by omega)))
  clear hw6 hb6 b0 b1 b2 s0 s1 s2 s3 s4 g0 g1 g2 g3 g4 HO5 HB5
  go_region
  all_goals
    go_wp2_with fail
    refine bodyPost_ret (v := .tuple #[.agg #[.int .i64 I, .int .i64 O, .slice (some ⟨w.heap.size + 1 + 1 + 1, 0, none⟩) (I * O).toNat (I * O).toNat], .agg #[.slice wq 0 wc, .int .i64 0]]) (by simp [results, Tryd.results23, go_sem]; go_simp) rfl ⟨_, _, rfl, ⟨_, rfl, ?_⟩, HW5.out.any, ?_⟩
    · have o1 := owns_setCell_ne HO6.out (k := w.heap.size) 0 (.int .i64 I) (by omega)
      have o2 := owns_setCell_ne o1 (k := w.heap.size) 1 (.int .i64 O) (by omega)
      have o3 := owns_setCell_ne o2 (k := w.heap.size) 2 (.slice (some ⟨w.heap.size + 1 + 1 + 1, 0, none⟩) (I * O).toNat (I * O).toNat) (by omega)
      have o4 := owns_setCell_ne o3 (k := w.heap.size + 1) 0 (.slice wq 0 wc) (by omega)
      have o5 := owns_setCell_ne o4 (k := w.heap.size + 1) 1 (.int .i64 0) (by omega)
      exact o5.drew
    · refine Below.drew ?_
      iterate 5 (refine Below.setCell ?_ (by simp only []; omega) _)
      exact HB6.out

/-- .. and where there is none. -/
theorem rfree_bad (I O : Int) (w : World) (p : Int × Int) (hp : p = chkT I O []) (hne : p.2 ≠ 0) (h : ¬ (0 ≤ I ∧ I ≤ 16 ∧ 0 ≤ O ∧ O ≤ 16)) :
    Calls Tryd.prog 23 #[.int .i64 I, .int .i64 O] w (TWPost 0 0 [] (turnW p) p.2 w) := by
  have HP := Lib.hid hp
  have hne' : (p.2 == 0) = false := by simpa using hne
  have hne2 : (p.2 != 0) = true := by simpa using hne
  have hI : I64s w (.slice none 0 0) [] := Or.inl ⟨rfl, _, _, rfl, fun _ => rfl⟩
  have hpar : (¬ 0 ≤ I) ∨ (0 ≤ I ∧ ¬ I ≤ 16) ∨ (0 ≤ I ∧ I ≤ 16 ∧ ¬ 0 ≤ O) ∨ (0 ≤ I ∧ I ≤ 16 ∧ 0 ≤ O ∧ ¬ O ≤ 16) := by omega
  clear hp hne h
  rcases hpar with d0 | ⟨d0, d1⟩ | ⟨d0, d1, d2⟩ | ⟨d0, d1, d2, d3⟩
  all_goals
    go_enter Tryd.func23, Tryd.ntmps23
    go_wp2_with fail
    refine (rcheck_any I O _ _ _ (hI.below (below_alloc1 _ |>.trans ((below_alloc2 _ _).mono (by simp)))) (fun x hx => by cases hx)).mono ?_
    rw [← HP.out]
    rintro e w5 ⟨wv, rfl, hW, hb⟩
    obtain ⟨sq, sn, sc, rfl⟩ := hW.shape
    have hr := Blk.keep hb (Blk.old (Blk.old (Blk.new w #[.int .i64 0, .int .i64 0, .slice none 0 0] 24 w.heap.size rfl) _) _)
    have he := Blk.keep hb (Blk.old (Blk.new (w.alloc (.cells #[.int .i64 0, .int .i64 0, .slice none 0 0] 24)) #[.slice none 0 0, .int .i64 0] 28 (w.heap.size + 1) (by simp)) _)
    have z5 : w.heap.size + 1 + 1 + 1 ≤ w5.heap.size := by have := hb.size; simpa using this
    have HB5 : Hid (Below w.heap.size w w5) := Lib.hid ((below_alloc1 _ |>.trans ((below_alloc2 _ _).mono (by simp))).trans (hb.mono (by simp; omega)))
    have HW5 := Lib.hid hW
    clear hb hW
    go_wp2_with fail
    obtain ⟨w6, hw6⟩ := named (w5.alloc (.cells #[.slice sq sn sc, .int .i64 p.2] 28))
    rw [← hw6]
    have hb6 : Below w5.heap.size w5 w6 := by rw [hw6]; exact below_alloc1 _
    have hx : Blk w6 w5.heap.size #[.slice sq sn sc, .int .i64 p.2] 28 := by rw [hw6]; exact Blk.new _ _ _ _ rfl
    obtain ⟨x0, x1, -, -⟩ := hx.o2
    obtain ⟨t0, t1, t2, g0, g1, g2⟩ := (hr.keep hb6).o3
    obtain ⟨t3, t4, g3, g4⟩ := (he.keep hb6).o2
    have HNS : Hid (NoStr w6 [w.heap.size, w.heap.size + 1]) := Lib.hid (NoStr.cons (hr.keep hb6) (by simp) (NoStr.cons (he.keep hb6) (by simp) (NoStr.nil _)))
    have HB6 : Hid (Below w.heap.size w w6) := Lib.hid (HB5.out.trans (hb6.mono (by omega)))
    have HW6 := Lib.hid (HW5.out.below hb6)
    clear hw6 hb6 hx hr he HB5 HW5
    go_wp2_with fail
    go_region
    all_goals
      go_wp2_with fail
      refine bodyPost_ret (v := .tuple #[.agg #[.int .i64 0, .int .i64 0, .slice none 0 0], .agg #[.slice sq sn sc, .int .i64 p.2]]) (by simp [results, Tryd.results23, go_sem]; go_simp) rfl ⟨_, _, rfl, tab_zero _, HW6.out.only (ks := [w.heap.size, w.heap.size + 1]) ?_ HNS.out, ?_⟩
      · refine Only.drew ?_
        iterate 5 (refine Only.setCell ?_ _ _ (by simp))
        exact Only.refl _ _
      · refine Below.drew ?_
        iterate 5 (refine Below.setCell ?_ (by simp only []; omega) _)
        exact HB6.out

end Go.Proofs.YtboimdgldjimpaaDoor
