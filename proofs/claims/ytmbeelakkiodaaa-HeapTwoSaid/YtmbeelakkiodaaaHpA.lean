/-
  The program's heap: is there a key; how many are in; which goes ahead; one is laid.
-/
import Derived.Test.YtmbeelakkiodaaaHpV
import Derived.Test.YtmbeelakkiodaaaGrow
import Derived.Deep.QuietTactic
import Derived.BigQuiet
import Derived.RegionTactic
import Derived.ChangeAlike
namespace Go.Proofs.Ytmbeelakkiodaaa
open Go.RowKit

set_option maxHeartbeats 1000000 in
theorem ahead_any (a b : It) (w : World) :
    Calls Try.prog 28 #[itV a, itV b] w fun e w' => e = .returned (.bool (ahdB a b)) ∧ Below w.heap.size w w' := by
  obtain ⟨a1, a2⟩ := a
  obtain ⟨b1, b2⟩ := b
  have hb : Below w.heap.size w ((w.alloc (.cells #[.int .i64 a1, .int .i64 a2] 56)).alloc (.cells #[.int .i64 b1, .int .i64 b2] 56)) := ((Below.refl _ _).alloc (Nat.le_refl _) _).alloc (by simp) _
  have HB := Lib.hid hb
  clear hb
  unfold ahdB
  simp only []
  by_cases h1 : a2 < b2
  · go_enter Try.func28, Try.ntmps28
    go_wp2
    go_ret
    exact ⟨ret_bool (by simp [h1]), HB.out⟩
  · by_cases h2 : a2 = b2
    · subst h2
      by_cases h3 : a1 < b1
      · have h4 : ¬ a2 < a2 := by omega
        go_enter Try.func28, Try.ntmps28
        go_wp2
        go_ret
        exact ⟨ret_bool (by simp), HB.out⟩
      · have h4 : ¬ a2 < a2 := by omega
        go_enter Try.func28, Try.ntmps28
        go_wp2
        go_ret
        exact ⟨ret_bool (by simp), HB.out⟩
    · go_enter Try.func28, Try.ntmps28
      go_wp2
      go_ret
      exact ⟨ret_bool (by simp [h1]), HB.out⟩

section
variable {S : Nat → Prop} {w : World} {p : Nat} {R : List It} {P : List Int} {rv pv : Value}

set_option maxHeartbeats 1000000 in
theorem hlen_any (h : HpS S w p R P rv pv) : Calls Try.prog 17 #[hp p] w fun e w' => e = .returned (.int .i64 R.length) ∧ w = w' := by
  obtain ⟨⟨q, c, rfl, -⟩, q', c', rfl⟩ := h.shape
  obtain ⟨c0, c1, -, -⟩ := h.k.o2
  clear h
  go_enter Try.func17, Try.ntmps17
  go_wp2
  go_ret
  exact ⟨rfl, rfl⟩

set_option maxHeartbeats 1000000 in
theorem hhas_any (h : HpS S w p R P rv pv) (k : Int) {B : Bool} (hB : decide (0 ≤ k ∧ k < P.length) = B) : Calls Try.prog 21 #[hp p, .int .i64 k] w fun e w' => e = .returned (.bool B) ∧ w = w' := by
  obtain ⟨⟨q, c, rfl, -⟩, q', c', rfl⟩ := h.shape
  obtain ⟨c0, c1, -, -⟩ := h.k.o2
  have HB := Lib.hid hB
  clear h hB
  by_cases h0 : 0 ≤ k
  · by_cases h1 : k < P.length
    · have d0 : decide (0 ≤ k) = true := by simpa using h0
      go_enter Try.func21, Try.ntmps21
      go_wp2
      go_ret
      exact ⟨ret_bool (by rw [← HB.out]; simp [h0, h1]), rfl⟩
    · have d0 : decide (0 ≤ k) = true := by simpa using h0
      go_enter Try.func21, Try.ntmps21
      go_wp2
      go_ret
      exact ⟨ret_bool (by rw [← HB.out]; simp [h1]), rfl⟩
  · have d0 : decide (0 ≤ k) = false := by simpa using h0
    go_enter Try.func21, Try.ntmps21
    go_wp2
    go_ret
    exact ⟨ret_bool (by rw [← HB.out]; symm; exact decide_eq_false (fun h => by omega)), rfl⟩

set_option maxHeartbeats 4000000 in
set_option maxRecDepth 100000 in
theorem hlay_any (h : HpS S w p R P rv pv) (i : Nat) (hi : i < R.length) (x : It) (hx : x.1 < P.length) :
    Calls Try.prog 29 #[hp p, .int .i64 i, itV x] w fun e w' => e = .returned (.tuple #[]) ∧ HpS S w' p (R.set i x) (P.set x.1 i) rv pv ∧ Keep (fun b => ¬ S b) w w' := by
  obtain ⟨⟨q, c, rfl, -⟩, q', c', rfl⟩ := h.shape
  obtain ⟨k, y⟩ := x
  simp only [] at hx ⊢
  obtain ⟨W, hW⟩ := named (w.alloc (.cells #[.int .i64 k, .int .i64 y] 56))
  have hbW : Below w.heap.size w W := by rw [hW]; exact (Below.refl _ _).alloc (Nat.le_refl _) _
  have h1 := h.old hbW
  have hbx : Blk W w.heap.size #[.int .i64 k, .int .i64 y] 56 := by rw [hW]; exact Blk.new _ _ _ _ rfl
  obtain ⟨b0, b1, -, -⟩ := hbx.o2
  obtain ⟨c0, c1, -, -⟩ := h1.k.o2
  obtain ⟨g, rfl, hg, ⟨v0, a0⟩, ⟨v1, a1⟩, f0, f1, hs, hk⟩ := h1.setR hi (k, y)
  simp only [] at hs hk
  have hgne : g ≠ w.heap.size := fun e => by
    have := (h.r.lt g rfl).2
    omega
  have hbx2 : Blk ((W.setCell ⟨g, i * 2, none⟩ (.int .i64 k)).setCell ⟨g, i * 2 + 1, none⟩ (.int .i64 y)) w.heap.size #[.int .i64 k, .int .i64 y] 56 := (hbx.other _ _ (fun e => hgne e.symm)).other _ _ (fun e => hgne e.symm)
  have HS := Lib.hid hs
  have HBX := Lib.hid hbx2
  have HBW := Lib.hid hbW
  have HK := Lib.hid hk
  have HW := Lib.hid hW
  have hi64 : (i : Int) < (R.length : Int) := by omega
  clear h h1 hbx hs hk hbx2 hbW hgne hW
  go_enter Try.func29, Try.ntmps29
  go_wp2_with fail
  rw [show w.alloc (.cells #[.int .i64 k, .int .i64 y] 56) = W from HW.out.symm]
  go_region
  go_wp2_with fail
  obtain ⟨W2, hW2⟩ := named ((W.setCell ⟨g, i * 2, none⟩ (.int .i64 k)).setCell ⟨g, i * 2 + 1, none⟩ (.int .i64 y)).drew
  rw [← hW2]
  have h2 : HpS S W2 p (R.set i (k, y)) P (.slice (some ⟨g, 0, none⟩) R.length c) (.slice q' P.length c') := by rw [hW2]; exact HS.out.drew
  have hk2 : Keep (fun b => ¬ S b) w W2 := by rw [hW2]; exact ((Keep.of HBW.out).trans HK.out).drew
  have hb2 : Blk W2 w.heap.size #[.int .i64 k, .int .i64 y] 56 := by rw [hW2]; exact HBX.out.drew
  clear b0 b1 c0 c1 a0 a1 f0 f1 HS HBX HBW HK HW hW2
  obtain ⟨b0, b1, -, -⟩ := hb2.o2
  obtain ⟨c0, c1, -, -⟩ := h2.k.o2
  obtain ⟨g', rfl, hg', ⟨v0, a0⟩, f0, hs, hk⟩ := h2.setP hx i
  have HS := Lib.hid hs
  have HK := Lib.hid (hk2.trans hk)
  clear h2 hk2 hb2 hs hk
  go_region
  go_wp2_with fail
  exact bodyPost_end (v := .tuple #[]) (by simp [results, Try.results29, go_sem]) rfl ⟨rfl, HS.out.drew, HK.out.drew⟩
end

end Go.Proofs.Ytmbeelakkiodaaa
