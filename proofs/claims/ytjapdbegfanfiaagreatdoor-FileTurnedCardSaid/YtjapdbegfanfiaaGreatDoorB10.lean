/-
  The document's Reader: Done.
-/
import Derived.Test.YtjapdbegfanfiaaGreatDoorC8
import Derived.Test.YtjapdbegfanfiaaGreatDoorRNetE
import Derived.Test.YtjapdbegfanfiaaGreatDoorB8
import Derived.Test.YtjapdbegfanfiaaGreatDoorA1
import Derived.Test.YtjapdbegfanfiaaGreatDoorA2
namespace Go.Proofs.YtjapdbegfanfiaaGreatDoor
open Go.RowKit

/-- What Done tells of a Reader. -/
def doneR (l : List Int) (a : Nat) (e : Int) : Flt := if ¬ e = 0 then ([(byteB, (a : Int))], e) else if a < l.length then ([(byteB, (a : Int))], 4) else ([], 0)
theorem R6V.wrong {w : World} {lo b a : Nat} {l : List Int} {e : Int} (h : R6V w lo b l a e) : ∃ q c sq n m, Blk w b #[.slice q l.length c, .int .i64 a, .slice sq n m, .int .i64 e] 74 ∧ WrongV w (.agg #[.slice sq n m, .int .i64 e]) (if e = 0 then [] else [(byteB, (a : Int))]) e := by
  obtain ⟨q, c, ⟨pv, hk, hp⟩, _⟩ := h
  rcases hp with ⟨h0, rfl⟩ | ⟨h0, p, rfl, -, hb⟩
  · exact ⟨q, c, none, 0, 0, hk, by rw [if_pos h0]; exact ⟨_, rfl, Or.inl ⟨rfl, rfl⟩⟩⟩
  · refine ⟨q, c, _, 1, 1, hk, ?_⟩
    rw [if_neg h0]
    refine ⟨_, rfl, Or.inr ⟨by simp, p, 0, 1, rfl, fun i hi => ?_, fun i hi => ?_⟩⟩
    · obtain rfl : i = 0 := by simpa using hi
      exact hb.o2.1
    · obtain rfl : i = 0 := by simpa using hi
      exact hb.o2.2.1

set_option maxRecDepth 100000 in
set_option maxHeartbeats 8000000 in
theorem done6_long {w : World} {lo b a : Nat} {l : List Int} {e : Int} (h : R6V w lo b l a e) (he : e = 0) (ha : a < l.length) : Calls Tryz.prog 32 #[rp b] w fun ev w' => ∃ v, ev = .returned v ∧ WrongV w' v (doneR l a e).1 (doneR l a e).2 ∧ Below w.heap.size w w' := by
  obtain ⟨q, c, sq, n, m, hk, hw⟩ := h.wrong
  have HK := Lib.hid hk
  have HW := Lib.hid hw
  have hD : doneR l a e = ([(byteB, (a : Int))], 4) := by unfold doneR; rw [if_neg (by simpa using he), if_pos ha]
  rw [hD]
  have d1 : decide ((a : Int) < (l.length : Int)) = true := decide_eq_true (by omega)
  subst he
  clear hD
  clear h hk hw
  go_enter Tryz.func32, Tryz.ntmps32
  go_wp2_with fail
  obtain ⟨W, hW⟩ := named (w.alloc (.cells #[.slice none 0 0, .int .i64 0] 40))
  rw [← hW]
  have HA : Hid (Below w.heap.size w W) := by rw [hW]; exact Lib.hid (below_new8 _)
  have KR : Hid (Blk W w.heap.size #[.slice none 0 0, .int .i64 0] 40) := by rw [hW]; exact Lib.hid (Blk.new _ _ _ _ rfl)
  clear hW
  have hGS : Grows (fun w' => Below W.heap.size W w') := Grows.below W
  refine' wp_growL _ (fun w' => Below W.heap.size W w') [[], [0], [1], [2], [3], [4], [5], [6], [6, 7], [6, 8], [6, 9], [6], [6, 11], [6, 12], [6, 13], [6, 14], [6, 10, 15], [6, 16]] (Fact.lit _ :: Fact.lit _ :: Fact.lit _ :: Fact.lit _ :: Fact.lit _ :: Fact.lit _ :: Fact.lit _ :: Fact.lit _ :: Fact.lit _ :: Fact.lit _ :: Fact.lit _ :: Fact.lit _ :: Fact.lit _ :: Fact.lit _ :: Fact.lit _ :: Fact.lit _ :: Fact.lit _ :: Fact.lit _ :: []) (by kernel_rfl) rfl (by kernel_rfl) (Below.refl _ _).drew ?seqdl
  case' seqdl => skip
  iterate 18 ((first | (apply grow_skip; (case hf => rfl); (case hw => rfl)) | (apply grow_lit; (case hf => rfl); (case hw => rfl); (case hrun => (intro w' hS H; clear H; (obtain ⟨c0, c1, c2, c3, -, -, -, -⟩ := (HK.out.keep (HA.out.trans (hS.mono HA.out.size))).o4); clear hS; go_simp; first | done | exact rfl)))); (case hc => (simp only [Act.put, List.setIfInBounds_toArray, List.set_cons_zero, List.set_cons_succ]; first | done | exact rfl)); (try (case hj => rfl)))
  intro w1 hb _
  have HB1 := Lib.hid (HA.out.trans (hb.mono HA.out.size))
  have kr := KR.out.keep hb
  obtain ⟨c0, c1, c2, c3, -, -, -, -⟩ := (HK.out.keep HB1.out).o4
  have KR1 := Lib.hid kr
  obtain ⟨r0, r1, g0, g1⟩ := kr.o2
  clear hb hGS kr
  have hlt1 := KR1.out.lt
  go_wp2_with fail
  clear c0 c1 c2 c3 r0 r1 g0 g1
  refine (vAt6 (a : Int) 4 _).mono ?_
  rintro ev w2 ⟨wv, rfl, ⟨h1, q2, n2, c2, rfl⟩, hb⟩
  have kr := KR1.out.keep hb
  obtain ⟨r0, r1, g0, g1⟩ := kr.o2
  have HF : Hid (WrongV ((w2.setCell ⟨w.heap.size, 0, none⟩ (.slice q2 n2 c2)).setCell ⟨w.heap.size, 1, none⟩ (.int .i64 4)) (.agg #[.slice q2 n2 c2, .int .i64 4]) [(byteB, (a : Int))] 4 ∧ Below w.heap.size w ((w2.setCell ⟨w.heap.size, 0, none⟩ (.slice q2 n2 c2)).setCell ⟨w.heap.size, 1, none⟩ (.int .i64 4))) := by
    have hx : Below w.heap.size w w2 := HB1.out.trans (hb.mono HB1.out.size)
    exact Lib.hid ⟨wrong_set kr (fun s => by simp) (fun s => by simp) h1 (.slice q2 n2 c2) (.int .i64 4), (hx.setCell (p := ⟨w.heap.size, 0, none⟩) (Nat.le_refl _) _).setCell (p := ⟨w.heap.size, 1, none⟩) (Nat.le_refl _) _⟩
  clear h1 hb kr HB1 HK HW KR KR1 HA
  go_wp2_with fail
  exact bodyPost_ret (v := .agg #[.slice q2 n2 c2, .int .i64 4]) (by simp [results, Tryz.results32, go_sem]; go_simp) rfl ⟨_, rfl, HF.out⟩

set_option maxRecDepth 100000 in
set_option maxHeartbeats 8000000 in
theorem done6_err {w : World} {lo b a : Nat} {l : List Int} {e : Int} (h : R6V w lo b l a e) (he : ¬ e = 0) : Calls Tryz.prog 32 #[rp b] w fun ev w' => ∃ v, ev = .returned v ∧ WrongV w' v (doneR l a e).1 (doneR l a e).2 ∧ Below w.heap.size w w' := by
  obtain ⟨q, c, sq, n, m, hk, hw⟩ := h.wrong
  have HK := Lib.hid hk
  have HW := Lib.hid hw
  have hD : doneR l a e = ([(byteB, (a : Int))], e) := by unfold doneR; rw [if_pos he]
  rw [hD]
  have d1 : (e == 0) = false := by simpa using he
  clear hD
  clear h hk hw
  go_enter Tryz.func32, Tryz.ntmps32
  go_wp2_with fail
  obtain ⟨W, hW⟩ := named (w.alloc (.cells #[.slice none 0 0, .int .i64 0] 40))
  rw [← hW]
  have HA : Hid (Below w.heap.size w W) := by rw [hW]; exact Lib.hid (below_new8 _)
  have KR : Hid (Blk W w.heap.size #[.slice none 0 0, .int .i64 0] 40) := by rw [hW]; exact Lib.hid (Blk.new _ _ _ _ rfl)
  clear hW
  have hGS : Grows (fun w' => Below W.heap.size W w') := Grows.below W
  refine' wp_growL _ (fun w' => Below W.heap.size W w') [[], [0], [1], [2], [3], [4], [5], [6], [6, 7], [6, 8], [6, 9], [6], [6, 11], [6, 12], [6, 13], [6, 14], [6, 10, 15], [6, 16]] (Fact.lit _ :: Fact.lit _ :: Fact.lit _ :: Fact.lit _ :: Fact.lit _ :: Fact.lit _ :: Fact.lit _ :: Fact.lit _ :: Fact.lit _ :: Fact.lit _ :: Fact.lit _ :: Fact.lit _ :: Fact.lit _ :: Fact.lit _ :: Fact.lit _ :: Fact.lit _ :: Fact.lit _ :: Fact.lit _ :: []) (by kernel_rfl) rfl (by kernel_rfl) (Below.refl _ _).drew ?seqde
  case' seqde => skip
  iterate 18 ((first | (apply grow_skip; (case hf => rfl); (case hw => rfl)) | (apply grow_lit; (case hf => rfl); (case hw => rfl); (case hrun => (intro w' hS H; clear H; (obtain ⟨c0, c1, c2, c3, -, -, -, -⟩ := (HK.out.keep (HA.out.trans (hS.mono HA.out.size))).o4); clear hS; go_simp; first | done | exact rfl)))); (case hc => (simp only [Act.put, List.setIfInBounds_toArray, List.set_cons_zero, List.set_cons_succ]; first | done | exact rfl)); (try (case hj => rfl)))
  intro w1 hb _
  have HB1 := Lib.hid (HA.out.trans (hb.mono HA.out.size))
  have kr := KR.out.keep hb
  obtain ⟨c0, c1, c2, c3, -, -, -, -⟩ := (HK.out.keep HB1.out).o4
  have KR1 := Lib.hid kr
  obtain ⟨r0, r1, g0, g1⟩ := kr.o2
  clear hb hGS kr
  have HF : Hid (WrongV ((w1.setCell ⟨w.heap.size, 0, none⟩ (.slice sq n m)).setCell ⟨w.heap.size, 1, none⟩ (.int .i64 e)) (.agg #[.slice sq n m, .int .i64 e]) (if e = 0 then [] else [(byteB, (a : Int))]) e ∧ Below w.heap.size w ((w1.setCell ⟨w.heap.size, 0, none⟩ (.slice sq n m)).setCell ⟨w.heap.size, 1, none⟩ (.int .i64 e))) :=
    Lib.hid ⟨wrong_set KR1.out (fun s => by simp) (fun s => by simp) (HW.out.below HB1.out) (.slice sq n m) (.int .i64 e), (HB1.out.setCell (p := ⟨w.heap.size, 0, none⟩) (Nat.le_refl _) _).setCell (p := ⟨w.heap.size, 1, none⟩) (Nat.le_refl _) _⟩
  clear HW HK HB1 KR KR1 HA
  go_wp2_with fail
  exact bodyPost_ret (v := .agg #[.slice sq n m, .int .i64 e]) (by simp [results, Tryz.results32, go_sem]; go_simp) rfl ⟨_, rfl, by have := HF.out.1; rwa [if_neg he] at this, HF.out.2⟩

set_option maxRecDepth 100000 in
set_option maxHeartbeats 8000000 in
theorem done6_ok {w : World} {lo b a : Nat} {l : List Int} {e : Int} (h : R6V w lo b l a e) (he : e = 0) (ha : ¬ a < l.length) : Calls Tryz.prog 32 #[rp b] w fun ev w' => ∃ v, ev = .returned v ∧ WrongV w' v (doneR l a e).1 (doneR l a e).2 ∧ Below w.heap.size w w' := by
  obtain ⟨q, c, sq, n, m, hk, hw⟩ := h.wrong
  have HK := Lib.hid hk
  have HW := Lib.hid hw
  have hD : doneR l a e = ([], 0) := by unfold doneR; rw [if_neg (by simpa using he), if_neg ha]
  rw [hD]
  have d1 : decide ((a : Int) < (l.length : Int)) = false := decide_eq_false (by omega)
  have d2 : decide (a < l.length) = false := decide_eq_false ha
  subst he
  clear hD
  clear h hk hw
  go_enter Tryz.func32, Tryz.ntmps32
  go_wp2_with fail
  obtain ⟨W, hW⟩ := named (w.alloc (.cells #[.slice none 0 0, .int .i64 0] 40))
  rw [← hW]
  have HA : Hid (Below w.heap.size w W) := by rw [hW]; exact Lib.hid (below_new8 _)
  have KR : Hid (Blk W w.heap.size #[.slice none 0 0, .int .i64 0] 40) := by rw [hW]; exact Lib.hid (Blk.new _ _ _ _ rfl)
  clear hW
  have hGS : Grows (fun w' => Below W.heap.size W w') := Grows.below W
  refine' wp_growL _ (fun w' => Below W.heap.size W w') [[], [0], [1], [2], [3], [4], [5], [6], [6, 7], [6, 8], [6, 9], [6], [6, 11], [6, 12], [6, 13], [6, 14], [6, 10, 15], [6, 16]] (Fact.lit _ :: Fact.lit _ :: Fact.lit _ :: Fact.lit _ :: Fact.lit _ :: Fact.lit _ :: Fact.lit _ :: Fact.lit _ :: Fact.lit _ :: Fact.lit _ :: Fact.lit _ :: Fact.lit _ :: Fact.lit _ :: Fact.lit _ :: Fact.lit _ :: Fact.lit _ :: Fact.lit _ :: Fact.lit _ :: []) (by kernel_rfl) rfl (by kernel_rfl) (Below.refl _ _).drew ?seqdo
  case' seqdo => skip
  iterate 18 ((first | (apply grow_skip; (case hf => rfl); (case hw => rfl)) | (apply grow_lit; (case hf => rfl); (case hw => rfl); (case hrun => (intro w' hS H; clear H; (obtain ⟨c0, c1, c2, c3, -, -, -, -⟩ := (HK.out.keep (HA.out.trans (hS.mono HA.out.size))).o4); clear hS; go_simp; first | done | exact rfl)))); (case hc => (simp only [Act.put, List.setIfInBounds_toArray, List.set_cons_zero, List.set_cons_succ]; first | done | exact rfl)); (try (case hj => rfl)))
  intro w1 hb _
  have HB1 := Lib.hid (HA.out.trans (hb.mono HA.out.size))
  have kr := KR.out.keep hb
  obtain ⟨c0, c1, c2, c3, -, -, -, -⟩ := (HK.out.keep HB1.out).o4
  have KR1 := Lib.hid kr
  obtain ⟨r0, r1, g0, g1⟩ := kr.o2
  clear hb hGS kr
  have HF : Hid (WrongV ((w1.setCell ⟨w.heap.size, 0, none⟩ (.slice sq n m)).setCell ⟨w.heap.size, 1, none⟩ (.int .i64 0)) (.agg #[.slice sq n m, .int .i64 0]) (if (0 : Int) = 0 then [] else [(byteB, (a : Int))]) 0 ∧ Below w.heap.size w ((w1.setCell ⟨w.heap.size, 0, none⟩ (.slice sq n m)).setCell ⟨w.heap.size, 1, none⟩ (.int .i64 0))) :=
    Lib.hid ⟨wrong_set KR1.out (fun s => by simp) (fun s => by simp) (HW.out.below HB1.out) (.slice sq n m) (.int .i64 0), (HB1.out.setCell (p := ⟨w.heap.size, 0, none⟩) (Nat.le_refl _) _).setCell (p := ⟨w.heap.size, 1, none⟩) (Nat.le_refl _) _⟩
  clear HW HK HB1 KR KR1 HA
  go_wp2_with fail
  exact bodyPost_ret (v := .agg #[.slice sq n m, .int .i64 0]) (by simp [results, Tryz.results32, go_sem]; go_simp) rfl ⟨_, rfl, by simpa using HF.out.1, HF.out.2⟩

theorem done6_any {w : World} {lo b a : Nat} {l : List Int} {e : Int} (h : R6V w lo b l a e) : Calls Tryz.prog 32 #[rp b] w fun ev w' => ∃ v, ev = .returned v ∧ WrongV w' v (doneR l a e).1 (doneR l a e).2 ∧ Below w.heap.size w w' := by
  by_cases he : e = 0
  · by_cases ha : a < l.length
    · exact done6_long h he ha
    · exact done6_ok h he ha
  · exact done6_err h he

end Go.Proofs.YtjapdbegfanfiaaGreatDoor

/-
  The program's own nets: its small functions; which arcs end, begin, at a vertex.
-/
namespace Go.Proofs.YtjapdbegfanfiaaGreatDoor
open Go.RowKit
theorem namong_is (i n : Int) (b : Bool) (w : World) (h : decide (0 ≤ i ∧ i < n) = b) : Calls Tryz.prog 92 #[.int .i64 i, .int .i64 n] w fun e w' => e = .returned (.bool b) ∧ w = w' := by
  by_cases h0 : 0 ≤ i
  · by_cases h1 : i < n
    · obtain rfl : b = true := by rw [← h]; simp [h0, h1]
      clear h
      have d0 : decide (0 ≤ i) = true := by simpa using h0
      go_enter Tryz.func92, Tryz.ntmps92
      go_wp2
      go_ret
      exact ⟨rfl, rfl⟩
    · obtain rfl : b = false := by rw [← h]; simp; omega
      clear h
      have d0 : decide (0 ≤ i) = true := by simpa using h0
      have d1 : decide (i < n) = false := by simp; omega
      go_enter Tryz.func92, Tryz.ntmps92
      go_wp2
      go_ret
      exact ⟨rfl, rfl⟩
  · obtain rfl : b = false := by rw [← h]; simp; omega
    clear h
    have d0 : decide (0 ≤ i) = false := by simp; omega
    go_enter Tryz.func92, Tryz.ntmps92
    go_wp2
    go_ret
    exact ⟨rfl, rfl⟩
theorem ncoord_is (x : Int) (b : Bool) (w : World) (h : coordB x = b) : Calls Tryz.prog 91 #[.int .i64 x] w fun e w' => e = .returned (.bool b) ∧ w = w' := by
  unfold coordB at h
  by_cases h0 : -1048576 ≤ x
  · by_cases h1 : x ≤ 1048576
    · obtain rfl : b = true := by rw [← h]; simp [h0, h1]
      clear h
      have d0 : decide (-1048576 ≤ x) = true := by simpa using h0
      go_enter Tryz.func91, Tryz.ntmps91
      go_wp2
      go_ret
      exact ⟨rfl, rfl⟩
    · obtain rfl : b = false := by rw [← h]; simp [h0]; omega
      clear h
      have d0 : decide (-1048576 ≤ x) = true := by simpa using h0
      have d1 : decide (x ≤ 1048576) = false := by simpa using h1
      go_enter Tryz.func91, Tryz.ntmps91
      go_wp2
      go_ret
      exact ⟨rfl, rfl⟩
  · obtain rfl : b = false := by rw [← h]; simp; omega
    clear h
    have d0 : decide (-1048576 ≤ x) = false := by simpa using h0
    go_enter Tryz.func91, Tryz.ntmps91
    go_wp2
    go_ret
    exact ⟨rfl, rfl⟩
theorem nfault_any (p : ByteArray) (n : Int) (t : TypeId) (u : Value) (w : World) :
    Calls Tryz.prog 89 #[.string p, .int .i64 n, .iface t u] w fun ev w' => ev = .returned (.iface 84 (.pointer (some ⟨w.heap.size, 0, none⟩))) ∧ w' = w.alloc (.cells #[.string p, .int .i64 n, .iface t u] 88) := by
  go_enter Tryz.func89, Tryz.ntmps89
  go_wp2
  go_ret
  exact ⟨rfl, rfl⟩
end Go.Proofs.YtjapdbegfanfiaaGreatDoor
