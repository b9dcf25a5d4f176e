/-
  -1, many times over.
-/
import Derived.Test.YtleheaffipokfaaDoorFlV
import Derived.Test.YtleheaffipokfaaDoorShelf
import Derived.Test.YtleheaffipokfaaDoorOne7
import Derived.Laws.CopyOwn
import Derived.Laws.MakeOwn
import Derived.IntWalk
namespace Go.Proofs.YtleheaffipokfaaDoor.RI
open Go.RowKit

theorem infoInt : (Tryd.prog.info? 3).map (fun i => (i.zero, i.size, i.bytes)) = some (some (.int .i64 0), 1, 8) := by kernel_rfl
theorem infoInt1 : (Tryd.prog.info? 3).map (·.size) = some 1 := by kernel_rfl
theorem mul1 (n : Nat) (hn : n ≤ 16384) (w : World) : Calls Tryd.prog 48 #[.int .u64 1, .int .u64 n] w fun e w' => e = .returned (.tuple #[.int .u64 0, .int .u64 n]) ∧ w = w' := by
  refine (Tryd.bits_Mul 1 n (by decide) (by omega) w).mono ?_
  rintro e w' ⟨rfl, rfl⟩
  have h1 : (1 * n / 18446744073709551616 : Nat) = 0 := by omega
  have h2 : (1 * n % 18446744073709551616 : Nat) = n := by omega
  rw [h1, h2]
  exact ⟨rfl, rfl⟩
def repL (j n : Nat) (a z : Value) : List Value := List.replicate j a ++ List.replicate (n - j) z
theorem repL_len {j n : Nat} (h : j ≤ n) (a z : Value) : (repL j n a z).length = n := by unfold repL; simp; omega
theorem repL_splice {j n m : Nat} (a z : Value) (h : j + m ≤ n) : splice (repL j n a z) j (List.replicate m a) = repL (j + m) n a z := by
  unfold splice repL
  rw [List.take_left' (by simp), List.drop_append]
  simp only [List.length_replicate, List.drop_replicate, show j - (j + m) = 0 from by omega, show n - j - (j + m - j) = n - (j + m) from by omega, List.replicate_zero, List.nil_append]
  rw [← List.append_assoc, List.replicate_append_replicate]
theorem repL_get {j n i : Nat} (a z : Value) (h : i < j) : (repL j n a z)[i]? = some a := by
  unfold repL
  rw [List.getElem?_append_left (by simpa using h), List.getElem?_replicate, if_pos h]
theorem made1 (z : Value) (n : Nat) : madeCells #[z] n = (List.replicate n z).toArray := by
  apply Array.ext
  · simp [size_madeCells]
  · intro i h1 h2
    simp [madeCells, Nat.mod_one]
/-- The run of make for rows of one cell an element. -/
theorem make1 (w : World) (t e : TypeId) (z : Value) (by' : Nat) (hc : z.cells = #[z]) (ht : Tryd.prog.underlying t = some (.slice e)) (hinf : (Tryd.prog.info? e).map (fun i => (i.zero, i.size, i.bytes)) = some (some z, 1, by')) (n : Nat) (hn : n ≤ 16384) (hb : by' ≤ 8) :
    (Instr.makeSlice t (.int .i64 (n : Int)) (.int .i64 (n : Int))).run Tryd.prog w = .ok (.slice (some ⟨w.heap.size, 0, none⟩) n n) (w.alloc (.cells (List.replicate n z).toArray e)) := by
  obtain ⟨i0, hi, hz0, hz1, hz2⟩ := info_parts hinf
  have hbn : (i0.bytes : Int) * (n : Int) ≤ 281474976710656 := by
    have : i0.bytes * n ≤ 8 * 16384 := Nat.mul_le_mul (by omega) hn
    have h2 : ((i0.bytes * n : Nat) : Int) ≤ ((8 * 16384 : Nat) : Int) := by exact_mod_cast this
    rw [Int.natCast_mul] at h2
    omega
  have := run_make (P := Tryd.prog) w t e i0 z ht hi hz0 .i64 .i64 n n (by omega) (Int.le_refl _) hbn (by omega)
  rw [hz1, hc, Nat.mul_one, Int.toNat_natCast, made1] at this
  exact this
theorem copy1 {w : World} {b M : Nat} {a : Value} (hc : w.cell? ⟨b, 0, none⟩ = some a) (hM : M ≤ 1) {j : Nat} {v : Value} (hj : (List.replicate M a)[j]? = some v) : w.cell? ((⟨b, 0, none⟩ : Addr).add j) = some v := by
  rw [List.getElem?_replicate] at hj
  split at hj
  · injection hj with hj
    subst hj
    have : j = 0 := by omega
    subst this
    exact hc
  · cases hj
/-- The copies at a round's head. -/
def RepRel (w : World) (n : Nat) (v : Value) (wr : World) : Prop :=
  ∃ j : Nat, v = .int .i64 j ∧ j ≤ n ∧ (0 < n → 0 < j) ∧ wr.heap[w.heap.size]? = some (.cells (repL j n (.int .i64 (-1)) (.int .i64 0)).toArray 3 (0, 0)) ∧ Below w.heap.size w wr
def RepPost (w : World) (n : Nat) (e : Ending) (w' : World) : Prop :=
  e = .returned (.slice (some ⟨w.heap.size, 0, none⟩) n n) ∧ Blk w' w.heap.size (List.replicate n (Value.int .i64 (-1))).toArray 3 ∧ Below w.heap.size w w'

/-- The row, so far. -/
def RepA (w : World) (n j : Nat) (wr : World) : Prop := wr.heap[w.heap.size]? = some (.cells (repL j n (.int .i64 (-1)) (.int .i64 0)).toArray 3 (0, 0)) ∧ Below w.heap.size w wr
theorem RepA.copy {w wr : World} {n j m : Nat} (h : RepA w n j wr) (hm : m = Nat.min j (n - j)) (hjm : j + m ≤ n) :
    ∃ w9, (Builtin.copy_ #[23, 23] 3 #[.slice (some ⟨w.heap.size, j, none⟩) (n - j) (n - j), .slice (some ⟨w.heap.size, 0, none⟩) j n]).run Tryd.prog wr = .ok (.int .i64 m) w9 ∧ RepA w n (j + m) w9 ∧ wr.heap.size ≤ w9.heap.size := by
  obtain ⟨hg, hb⟩ := h
  have hrun := run_copy_row (P := Tryd.prog) wr 23 23 3 3 w.heap.size j (n - j) (n - j) ⟨w.heap.size, 0, none⟩ j n _ 3 (List.replicate m (.int .i64 (-1))) Tryd.underlying23 infoInt1 hg (by rw [List.length_replicate]; exact hm)
    (fun i v hi => by
      rw [List.getElem?_replicate] at hi
      split at hi
      · injection hi with hi
        subst hi
        have hij : i < j := by have h9 : Nat.min j (n - j) ≤ j := Nat.min_le_left _ _; omega
        have hadd : (⟨w.heap.size, 0, none⟩ : Addr).add i = ⟨w.heap.size, i, none⟩ := by unfold Addr.add; split <;> simp_all
        rw [hadd, cell_of_row wr w.heap.size i _ _ _ hg]
        simpa using repL_get (.int .i64 (-1)) (.int .i64 0) hij
      · cases hi)
    (by rw [List.length_replicate]; simp only [List.size_toArray]; rw [repL_len (by omega)]; exact hjm) (fun v hv => by rw [List.eq_of_mem_replicate hv]; rfl)
  rw [List.length_replicate] at hrun
  refine ⟨_, hrun, ⟨?_, below_setRow hb (Nat.le_refl _) _⟩, by simp [World.setRow]⟩
  have := setRow_heap wr w.heap.size (repL j n (.int .i64 (-1)) (.int .i64 0)).toArray ((repL j n (.int .i64 (-1)) (.int .i64 0)).take j ++ (List.replicate m (Value.int .i64 (-1)) ++ (repL j n (.int .i64 (-1)) (.int .i64 0)).drop (j + m))).toArray 3 (0, 0) hg
  have e := repL_splice (j := j) (n := n) (m := m) (.int .i64 (-1)) (.int .i64 0) hjm
  unfold splice at e
  rw [List.length_replicate] at e
  rw [e] at this
  simpa [e] using this

set_option maxHeartbeats 4000000 in
set_option maxRecDepth 100000 in
theorem hrepeat (n : Nat) (hn : n ≤ 16384) (b : Nat) (w : World) (hb : Blk w b #[.int .i64 (-1)] 3) : Calls Tryd.prog 43 #[.slice (some ⟨b, 0, none⟩) 1 1, .int .i64 n] w (RepPost w n) := by
  obtain ⟨c0, f0⟩ := hb.o1
  have hblt := hb.lt
  have hni : (n : Int) ≤ 16384 := by omega
  have hn0 : (0 : Int) ≤ n := by omega
  have HB := Lib.hid hb
  have hmk := make1 w 23 3 (.int .i64 0) 8 rfl Tryd.underlying23 infoInt n hn (by decide)
  clear hb
  obtain ⟨M, hM1, hM2⟩ : ∃ M : Nat, M = Nat.min 1 n ∧ M ≤ n := ⟨_, rfl, Nat.min_le_right _ _⟩
  have hM3 : 0 < n → 0 < M := fun h => by rw [hM1]; exact Nat.lt_min.2 ⟨by omega, h⟩
  have hM4 : M ≤ 1 := by rw [hM1]; exact Nat.min_le_left _ _
  have HM1 := Lib.hid hM1
  have HM3 := Lib.hid hM3
  clear hM1 hM3
  obtain ⟨w1, hw1⟩ := named (w.alloc (.cells (List.replicate n (.int .i64 0)).toArray 3))
  have hb1 : Below w.heap.size w w1 := by rw [hw1]; exact below_alloc1 _
  have hg1 : w1.heap[w.heap.size]? = some (.cells (repL 0 n (.int .i64 (-1)) (.int .i64 0)).toArray 3 (0, 0)) := by rw [hw1]; simpa [repL] using heap_alloc_new w (.cells (List.replicate n (.int .i64 0)).toArray 3)
  have hc1 := keep hb1 c0
  have HB1 := Lib.hid hb1
  have HG1 := Lib.hid hg1
  have HC1 := Lib.hid hc1
  rw [← hw1] at hmk
  clear hb1 hg1 hc1 hw1
  go_enter Tryd.func43, Tryd.ntmps43
  go_wp2_with fail
  refine (mul1 n hn _).mono ?_
  rintro e w' ⟨rfl, rfl⟩
  go_wp2_with (refine wpList_copy_splice rfl (.tmp 31) (.tmp 32) 23 23 rfl 3 Tryd.underlying23 infoInt1 (some ⟨w.heap.size, 0, none⟩) (some ⟨b, 0, none⟩) n n 1 1 rfl rfl w.heap.size 0 (repL 0 n (.int .i64 (-1)) (.int .i64 0)) 3 HG1.out (List.replicate M (.int .i64 (-1))) (by rw [List.length_replicate]; exact HM1.out) (fun _ => ⟨rfl, _, rfl, fun j v hj => copy1 HC1.out hM4 hj⟩) (by rw [List.length_replicate, repL_len (Nat.zero_le _)]; omega) (fun v hv => by rw [List.eq_of_mem_replicate hv]; rfl) w.heap.size w HB1.out (Nat.le_refl _) ?_; intro w2 hg2 hb2)
  have HR2 : Hid (RepRel w n (.int .i64 M) w2) := Lib.hid ⟨M, rfl, hM2, HM3.out, by have := hg2.out; rw [repL_splice _ _ (by omega), Nat.zero_add] at this; exact this, hb2⟩
  clear hg2 hb2 HM1 HM3 hM4
  go_loopw [8] (fun v wr => RepRel w n v wr) (fun v _ => n - (intOf v).toNat)
  case atStart => exact HR2.out
  case round =>
    obtain ⟨j, rfl, hj, hj0, hg, hb⟩ := hrel
    clear HR2
    obtain ⟨wo, rfl⟩ : ∃ wo : World, wo = wr := ⟨_, rfl⟩
    by_cases hlt : j < n
    · have hjp := hj0 (by omega)
      obtain ⟨m, hm1, hm2, hm3⟩ : ∃ m : Nat, m = Nat.min j (n - j) ∧ j + m ≤ n ∧ 0 < m := ⟨_, rfl, by have h9 : Nat.min j (n - j) ≤ n - j := Nat.min_le_right _ _; omega, Nat.lt_min.2 ⟨hjp, by omega⟩⟩
      have HG := Lib.hid hg
      have HB := Lib.hid hb
      have HM := Lib.hid hm1
      have hs1 : IntKind.i64.wrap ((j : Int) + (m : Int)) = ((j + m : Nat) : Int) := by rw [IntWalk.i64_in _ (by omega)]; omega
      have hne : ¬ n = j := by omega
      have hjn : (j : Int) ≤ (n : Int) := by omega
      clear hg hb hm1 hj0
      go_wp2_with fail
      have A0 := Lib.hid (show RepA w n j wo.drew from ⟨HG.out, HB.out.drew⟩)
      refine' GG.wp_thenL _ 9 (GG.OneW 7 (RepA w n j) (RepA w n (j + m))) [[], [], [], [1, 2], [], [], [4, 5], [1, 2, 3, 4, 5, 6], [0, 1, 2, 3, 4, 5, 6, 7]] (GG.Fact.lit (Rl := GG.RlW) _ :: GG.Fact.lit (Rl := GG.RlW) _ :: GG.Fact.lit (Rl := GG.RlW) _ :: GG.Fact.lit (Rl := GG.RlW) _ :: GG.Fact.lit (Rl := GG.RlW) _ :: GG.Fact.lit (Rl := GG.RlW) _ :: GG.Fact.lit (Rl := GG.RlW) _ :: GG.Fact.lit (Rl := GG.RlW) _ :: GG.Fact.lit (Rl := GG.RlW) _ :: []) (by kernel_rfl) rfl (by kernel_rfl) (()) (GG.OneW.start A0.out) ?seqrp
      case' seqrp => skip
      (refine' GG.grow_lit (GG.OneW.still (by decide)) rfl ?wtrp0 ?runrp0 ?putrp0 ?nextrp0; (case wtrp0 => rfl); (case runrp0 => (intro w' hS; (obtain ⟨dn, s, hS⟩ := hS); clear hS; go_simp; first | done | exact rfl)); (case putrp0 => (first | (simp only [Act.put, List.setIfInBounds_toArray, List.set_cons_zero, List.set_cons_succ]; first | done | exact rfl) | rfl)); (case' nextrp0 => skip))
      (refine' GG.grow_lit (GG.OneW.still (by decide)) rfl ?wtrp1 ?runrp1 ?putrp1 ?nextrp1; (case wtrp1 => rfl); (case runrp1 => (intro w' hS; (obtain ⟨dn, s, hS⟩ := hS); clear hS; go_simp; first | done | exact rfl)); (case putrp1 => (first | (simp only [Act.put, List.setIfInBounds_toArray, List.set_cons_zero, List.set_cons_succ]; first | done | exact rfl) | rfl)); (case' nextrp1 => skip))
      (refine' GG.grow_lit (GG.OneW.still (by decide)) rfl ?wtrp2 ?runrp2 ?putrp2 ?nextrp2; (case wtrp2 => rfl); (case runrp2 => (intro w' hS; (obtain ⟨dn, s, hS⟩ := hS); clear hS; go_simp; first | done | exact rfl)); (case putrp2 => (first | (simp only [Act.put, List.setIfInBounds_toArray, List.set_cons_zero, List.set_cons_succ]; first | done | exact rfl) | rfl)); (case' nextrp2 => skip))
      (refine' GG.grow_lit (GG.OneW.still (by decide)) rfl ?wtrp3 ?runrp3 ?putrp3 ?nextrp3; (case wtrp3 => rfl); (case runrp3 => (intro w' hS; (obtain ⟨dn, s, hS⟩ := hS); clear hS; go_simp; first | done | exact rfl)); (case putrp3 => (first | (simp only [Act.put, List.setIfInBounds_toArray, List.set_cons_zero, List.set_cons_succ]; first | done | exact rfl) | rfl)); (case' nextrp3 => skip))
      (refine' GG.grow_lit (GG.OneW.still (by decide)) rfl ?wtrp4 ?runrp4 ?putrp4 ?nextrp4; (case wtrp4 => rfl); (case runrp4 => (intro w' hS; (obtain ⟨dn, s, hS⟩ := hS); clear hS; go_simp; first | done | exact rfl)); (case putrp4 => (first | (simp only [Act.put, List.setIfInBounds_toArray, List.set_cons_zero, List.set_cons_succ]; first | done | exact rfl) | rfl)); (case' nextrp4 => skip))
      (refine' GG.grow_lit (GG.OneW.still (by decide)) rfl ?wtrp5 ?runrp5 ?putrp5 ?nextrp5; (case wtrp5 => rfl); (case runrp5 => (intro w' hS; (obtain ⟨dn, s, hS⟩ := hS); clear hS; go_simp; first | done | exact rfl)); (case putrp5 => (first | (simp only [Act.put, List.setIfInBounds_toArray, List.set_cons_zero, List.set_cons_succ]; first | done | exact rfl) | rfl)); (case' nextrp5 => skip))
      (refine' GG.grow_lit (GG.OneW.still (by decide)) rfl ?wtrp6 ?runrp6 ?putrp6 ?nextrp6; (case wtrp6 => rfl); (case runrp6 => (intro w' hS; (obtain ⟨dn, s, hS⟩ := hS); clear hS; go_simp; first | done | exact rfl)); (case putrp6 => (first | (simp only [Act.put, List.setIfInBounds_toArray, List.set_cons_zero, List.set_cons_succ]; first | done | exact rfl) | rfl)); (case' nextrp6 => skip))
      (refine' GG.grow_write (u := .int .i64 m) rfl ?wtrp7 ?runrp7 ?putrp7 ?nextrp7; (case wtrp7 => rfl); (case runrp7 => (intro dn s w' hS hd H; obtain ⟨w9, hr9, h9, hz9⟩ := (hS.g0 hd).copy HM.out hm2; exact ⟨(), w9, (by clear hS H; go_simp), GG.OneW.put h9, trivial, hz9⟩)); (case putrp7 => (first | (simp only [Act.put, List.setIfInBounds_toArray, List.set_cons_zero, List.set_cons_succ]; first | done | exact rfl) | rfl)); (case' nextrp7 => skip))
      (refine' GG.grow_lit (GG.OneW.still (by decide)) rfl ?wtrp8 ?runrp8 ?putrp8 ?nextrp8; (case wtrp8 => rfl); (case runrp8 => (intro w' hS; (obtain ⟨dn, s, hS⟩ := hS); clear hS; go_simp; first | done | exact rfl)); (case putrp8 => (first | (simp only [Act.put, List.setIfInBounds_toArray, List.set_cons_zero, List.set_cons_succ]; first | done | exact rfl) | rfl)); (case' nextrp8 => skip))
      intro dn s W1 hS hdn _
      have HA1 := Lib.hid (hS.g1 (hdn 7 (by decide)))
      clear hS hdn A0 HG HB HM
      refine wpAny_ready (rs := [9]) (by kernel_rfl) (by simp) (AllReady.cons rfl (fun K hK => ?_) AllReady.nil)
      go_simp
      refine hK _ _ ?_
      clear hK K
      refine wpAny_done (by kernel_rfl) ?_ _
      go_wp2_with fail
      go_roundw
      case rel => exact ⟨j + m, rfl, hm2, fun _ => by omega, HA1.out.1, HA1.out.2⟩
      case measure => simp [intOf]; omega
    · have hjn : j = n := by omega
      have HG := Lib.hid hg
      have HB := Lib.hid hb
      have hdl : decide (j < n) = false := by simpa using hlt
      clear hg hb hj0 hlt
      go_wp2_with fail
      go_ret
      exact ⟨rfl, by have := HG.out; rw [hjn] at this; unfold repL at this; rw [Nat.sub_self, List.replicate_zero, List.append_nil] at this; exact this, HB.out⟩

theorem hrepeat_z {n : Nat} (z : Int) (hn : n ≤ 16384) (hz : z = (n : Int)) (b : Nat) (w : World) (hb : Blk w b #[.int .i64 (-1)] 3) : Calls Tryd.prog 43 #[.slice (some ⟨b, 0, none⟩) 1 1, .int .i64 z] w (RepPost w n) := by
  subst hz
  exact hrepeat n hn b w hb
end Go.Proofs.YtleheaffipokfaaDoor.RI
