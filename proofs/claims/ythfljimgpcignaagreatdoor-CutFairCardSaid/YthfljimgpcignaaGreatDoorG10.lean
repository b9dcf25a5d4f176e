/-
  -1, many times over.
-/
import Derived.Test.YthfljimgpcignaaGreatDoorFlV
import Derived.Test.YthfljimgpcignaaGreatDoorShelf
import Derived.Test.YthfljimgpcignaaGreatDoorG5
import Derived.Laws.CopyOwn
import Derived.Laws.MakeOwn
import Derived.IntWalk
import Derived.Test.YthfljimgpcignaaGreatDoorG8
import Derived.Test.YthfljimgpcignaaGreatDoorFlB
import Derived.RegionTactic
import Derived.BigQuiet
import Derived.WalkSmall
namespace Go.Proofs.YthfljimgpcignaaGreatDoor.RI
open Go.RowKit

theorem infoInt : (Tryz.prog.info? 3).map (fun i => (i.zero, i.size, i.bytes)) = some (some (.int .i64 0), 1, 8) := by kernel_rfl
theorem infoInt1 : (Tryz.prog.info? 3).map (·.size) = some 1 := by kernel_rfl
theorem mul1 (n : Nat) (hn : n ≤ 16384) (w : World) : Calls Tryz.prog 87 #[.int .u64 1, .int .u64 n] w fun e w' => e = .returned (.tuple #[.int .u64 0, .int .u64 n]) ∧ w = w' := by
  refine (Tryz.bits_Mul 1 n (by decide) (by omega) w).mono ?_
  rintro e w' ⟨rfl, rfl⟩
  have h1 : (1 * n / 18446744073709551616 : Nat) = 0 := by omega
  have h2 : (1 * n % 18446744073709551616 : Nat) = n := by omega
  rw [h1, h2]
  exact ⟨rfl, rfl⟩
def repL (j n : Nat) (a z : Value) : List Value := List.replicate j a ++ List.replicate (n - j) z
theorem repL_len {j n : Nat} (h : j ≤ n) (a z : Value) : (repL j n a z).length = n := by unfold repL; simp; omega
theorem repL_splice {j n m : Nat} (a z : Value) (h : j + m ≤ n) : splice (repL j n a z) j (List.replicate m a) = repL (j + m) n a z := by
  unfold splice repL
  rw [List.take_left' (by simp), List.drop_append]
  simp only [List.length_replicate, List.drop_replicate, show j - (j + m) = 0 from by omega, show n - j - (j + m - j) = n - (j + m) from by omega, List.replicate_zero, List.nil_append]
  rw [← List.append_assoc, List.replicate_append_replicate]
theorem repL_get {j n i : Nat} (a z : Value) (h : i < j) : (repL j n a z)[i]? = some a := by
  unfold repL
  rw [List.getElem?_append_left (by simpa using h), List.getElem?_replicate, if_pos h]
theorem made1 (z : Value) (n : Nat) : madeCells #[z] n = (List.replicate n z).toArray := by
  apply Array.ext
  · simp [size_madeCells]
  · intro i h1 h2
    simp [madeCells, Nat.mod_one]
/-- The run of make for rows of one cell an element. -/
theorem make1 (w : World) (t e : TypeId) (z : Value) (by' : Nat) (hc : z.cells = #[z]) (ht : Tryz.prog.underlying t = some (.slice e)) (hinf : (Tryz.prog.info? e).map (fun i => (i.zero, i.size, i.bytes)) = some (some z, 1, by')) (n : Nat) (hn : n ≤ 16384) (hb : by' ≤ 8) :
    (Instr.makeSlice t (.int .i64 (n : Int)) (.int .i64 (n : Int))).run Tryz.prog w = .ok (.slice (some ⟨w.heap.size, 0, none⟩) n n) (w.alloc (.cells (List.replicate n z).toArray e)) := by
  obtain ⟨i0, hi, hz0, hz1, hz2⟩ := info_parts hinf
  have hbn : (i0.bytes : Int) * (n : Int) ≤ 281474976710656 := by
    have : i0.bytes * n ≤ 8 * 16384 := Nat.mul_le_mul (by omega) hn
    have h2 : ((i0.bytes * n : Nat) : Int) ≤ ((8 * 16384 : Nat) : Int) := by exact_mod_cast this
    rw [Int.natCast_mul] at h2
    omega
  have := run_make (P := Tryz.prog) w t e i0 z ht hi hz0 .i64 .i64 n n (by omega) (Int.le_refl _) hbn (by omega)
  rw [hz1, hc, Nat.mul_one, Int.toNat_natCast, made1] at this
  exact this
theorem copy1 {w : World} {b M : Nat} {a : Value} (hc : w.cell? ⟨b, 0, none⟩ = some a) (hM : M ≤ 1) {j : Nat} {v : Value} (hj : (List.replicate M a)[j]? = some v) : w.cell? ((⟨b, 0, none⟩ : Addr).add j) = some v := by
  rw [List.getElem?_replicate] at hj
  split at hj
  · injection hj with hj
    subst hj
    have : j = 0 := by omega
    subst this
    exact hc
  · cases hj
/-- The copies at a round's head. -/
def RepRel (w : World) (n : Nat) (v : Value) (wr : World) : Prop :=
  ∃ j : Nat, v = .int .i64 j ∧ j ≤ n ∧ (0 < n → 0 < j) ∧ wr.heap[w.heap.size]? = some (.cells (repL j n (.int .i64 (-1)) (.int .i64 0)).toArray 3 (0, 0)) ∧ Below w.heap.size w wr
def RepPost (w : World) (n : Nat) (e : Ending) (w' : World) : Prop :=
  e = .returned (.slice (some ⟨w.heap.size, 0, none⟩) n n) ∧ Blk w' w.heap.size (List.replicate n (Value.int .i64 (-1))).toArray 3 ∧ Below w.heap.size w w'

/-- The row, so far. -/
def RepA (w : World) (n j : Nat) (wr : World) : Prop := wr.heap[w.heap.size]? = some (.cells (repL j n (.int .i64 (-1)) (.int .i64 0)).toArray 3 (0, 0)) ∧ Below w.heap.size w wr
theorem RepA.copy {w wr : World} {n j m : Nat} (h : RepA w n j wr) (hm : m = Nat.min j (n - j)) (hjm : j + m ≤ n) :
    ∃ w9, (Builtin.copy_ #[39, 39] 3 #[.slice (some ⟨w.heap.size, j, none⟩) (n - j) (n - j), .slice (some ⟨w.heap.size, 0, none⟩) j n]).run Tryz.prog wr = .ok (.int .i64 m) w9 ∧ RepA w n (j + m) w9 ∧ wr.heap.size ≤ w9.heap.size := by
  obtain ⟨hg, hb⟩ := h
  have hrun := run_copy_row (P := Tryz.prog) wr 39 39 3 3 w.heap.size j (n - j) (n - j) ⟨w.heap.size, 0, none⟩ j n _ 3 (List.replicate m (.int .i64 (-1))) Tryz.underlying39 infoInt1 hg (by rw [List.length_replicate]; exact hm)
    (fun i v hi => by
      rw [List.getElem?_replicate] at hi
      split at hi
      · injection hi with hi
        subst hi
        have hij : i < j := by have h9 : Nat.min j (n - j) ≤ j := Nat.min_le_left _ _; omega
        have hadd : (⟨w.heap.size, 0, none⟩ : Addr).add i = ⟨w.heap.size, i, none⟩ := by unfold Addr.add; split <;> simp_all
        rw [hadd, cell_of_row wr w.heap.size i _ _ _ hg]
        simpa using repL_get (.int .i64 (-1)) (.int .i64 0) hij
      · cases hi)
    (by rw [List.length_replicate]; simp only [List.size_toArray]; rw [repL_len (by omega)]; exact hjm) (fun v hv => by rw [List.eq_of_mem_replicate hv]; rfl)
  rw [List.length_replicate] at hrun
  refine ⟨_, hrun, ⟨?_, below_setRow hb (Nat.le_refl _) _⟩, by simp [World.setRow]⟩
  have := setRow_heap wr w.heap.size (repL j n (.int .i64 (-1)) (.int .i64 0)).toArray ((repL j n (.int .i64 (-1)) (.int .i64 0)).take j ++ (List.replicate m (Value.int .i64 (-1)) ++ (repL j n (.int .i64 (-1)) (.int .i64 0)).drop (j + m))).toArray 3 (0, 0) hg
  have e := repL_splice (j := j) (n := n) (m := m) (.int .i64 (-1)) (.int .i64 0) hjm
  unfold splice at e
  rw [List.length_replicate] at e
  rw [e] at this
  simpa [e] using this

set_option maxHeartbeats 4000000 in
set_option maxRecDepth 100000 in
theorem hrepeat (n : Nat) (hn : n ≤ 16384) (b : Nat) (w : World) (hb : Blk w b #[.int .i64 (-1)] 3) : Calls Tryz.prog 80 #[.slice (some ⟨b, 0, none⟩) 1 1, .int .i64 n] w (RepPost w n) := by
  obtain ⟨c0, f0⟩ := hb.o1
  have hblt := hb.lt
  have hni : (n : Int) ≤ 16384 := by omega
  have hn0 : (0 : Int) ≤ n := by omega
  have HB := Lib.hid hb
  have hmk := make1 w 39 3 (.int .i64 0) 8 rfl Tryz.underlying39 infoInt n hn (by decide)
  clear hb
  obtain ⟨M, hM1, hM2⟩ : ∃ M : Nat, M = Nat.min 1 n ∧ M ≤ n := ⟨_, rfl, Nat.min_le_right _ _⟩
  have hM3 : 0 < n → 0 < M := fun h => by rw [hM1]; exact Nat.lt_min.2 ⟨by omega, h⟩
  have hM4 : M ≤ 1 := by rw [hM1]; exact Nat.min_le_left _ _
  have HM1 := Lib.hid hM1
  have HM3 := Lib.hid hM3
  clear hM1 hM3
  obtain ⟨w1, hw1⟩ := named (w.alloc (.cells (List.replicate n (.int .i64 0)).toArray 3))
  have hb1 : Below w.heap.size w w1 := by rw [hw1]; exact below_alloc1 _
  have hg1 : w1.heap[w.heap.size]? = some (.cells (repL 0 n (.int .i64 (-1)) (.int .i64 0)).toArray 3 (0, 0)) := by rw [hw1]; simpa [repL] using heap_alloc_new w (.cells (List.replicate n (.int .i64 0)).toArray 3)
  have hc1 := keep hb1 c0
  have HB1 := Lib.hid hb1
  have HG1 := Lib.hid hg1
  have HC1 := Lib.hid hc1
  rw [← hw1] at hmk
  clear hb1 hg1 hc1 hw1
  go_enter Tryz.func80, Tryz.ntmps80
  go_wp2_with fail
  refine (mul1 n hn _).mono ?_
  rintro e w' ⟨rfl, rfl⟩
  go_wp2_with (refine wpList_copy_splice rfl (.tmp 31) (.tmp 32) 39 39 rfl 3 Tryz.underlying39 infoInt1 (some ⟨w.heap.size, 0, none⟩) (some ⟨b, 0, none⟩) n n 1 1 rfl rfl w.heap.size 0 (repL 0 n (.int .i64 (-1)) (.int .i64 0)) 3 HG1.out (List.replicate M (.int .i64 (-1))) (by rw [List.length_replicate]; exact HM1.out) (fun _ => ⟨rfl, _, rfl, fun j v hj => copy1 HC1.out hM4 hj⟩) (by rw [List.length_replicate, repL_len (Nat.zero_le _)]; omega) (fun v hv => by rw [List.eq_of_mem_replicate hv]; rfl) w.heap.size w HB1.out (Nat.le_refl _) ?_; intro w2 hg2 hb2)
  have HR2 : Hid (RepRel w n (.int .i64 M) w2) := Lib.hid ⟨M, rfl, hM2, HM3.out, by have := hg2.out; rw [repL_splice _ _ (by omega), Nat.zero_add] at this; exact this, hb2⟩
  clear hg2 hb2 HM1 HM3 hM4
  go_loopw [8] (fun v wr => RepRel w n v wr) (fun v _ => n - (intOf v).toNat)
  case atStart => exact HR2.out
  case round =>
    obtain ⟨j, rfl, hj, hj0, hg, hb⟩ := hrel
    clear HR2
    obtain ⟨wo, rfl⟩ : ∃ wo : World, wo = wr := ⟨_, rfl⟩
    by_cases hlt : j < n
    · have hjp := hj0 (by omega)
      obtain ⟨m, hm1, hm2, hm3⟩ : ∃ m : Nat, m = Nat.min j (n - j) ∧ j + m ≤ n ∧ 0 < m := ⟨_, rfl, by have h9 : Nat.min j (n - j) ≤ n - j := Nat.min_le_right _ _; omega, Nat.lt_min.2 ⟨hjp, by omega⟩⟩
      have HG := Lib.hid hg
      have HB := Lib.hid hb
      have HM := Lib.hid hm1
      have hs1 : IntKind.i64.wrap ((j : Int) + (m : Int)) = ((j + m : Nat) : Int) := by rw [IntWalk.i64_in _ (by omega)]; omega
      have hne : ¬ n = j := by omega
      have hjn : (j : Int) ≤ (n : Int) := by omega
      clear hg hb hm1 hj0
      go_wp2_with fail
      have A0 := Lib.hid (show RepA w n j wo.drew from ⟨HG.out, HB.out.drew⟩)
      refine' GG.wp_thenL _ 9 (GG.OneW 7 (RepA w n j) (RepA w n (j + m))) [[], [], [], [1, 2], [], [], [4, 5], [1, 2, 3, 4, 5, 6], [0, 1, 2, 3, 4, 5, 6, 7]] (GG.Fact.lit (Rl := GG.RlW) _ :: GG.Fact.lit (Rl := GG.RlW) _ :: GG.Fact.lit (Rl := GG.RlW) _ :: GG.Fact.lit (Rl := GG.RlW) _ :: GG.Fact.lit (Rl := GG.RlW) _ :: GG.Fact.lit (Rl := GG.RlW) _ :: GG.Fact.lit (Rl := GG.RlW) _ :: GG.Fact.lit (Rl := GG.RlW) _ :: GG.Fact.lit (Rl := GG.RlW) _ :: []) (by kernel_rfl) rfl (by kernel_rfl) (()) (GG.OneW.start A0.out) ?seqrp
      case' seqrp => skip
      (refine' GG.grow_lit (GG.OneW.still (by decide)) rfl ?wtrp0 ?runrp0 ?putrp0 ?nextrp0; (case wtrp0 => rfl); (case runrp0 => (intro w' hS; (obtain ⟨dn, s, hS⟩ := hS); clear hS; go_simp; first | done | exact rfl)); (case putrp0 => (first | (simp only [Act.put, List.setIfInBounds_toArray, List.set_cons_zero, List.set_cons_succ]; first | done | exact rfl) | rfl)); (case' nextrp0 => skip))
      (refine' GG.grow_lit (GG.OneW.still (by decide)) rfl ?wtrp1 ?runrp1 ?putrp1 ?nextrp1; (case wtrp1 => rfl); (case runrp1 => (intro w' hS; (obtain ⟨dn, s, hS⟩ := hS); clear hS; go_simp; first | done | exact rfl)); (case putrp1 => (first | (simp only [Act.put, List.setIfInBounds_toArray, List.set_cons_zero, List.set_cons_succ]; first | done | exact rfl) | rfl)); (case' nextrp1 => skip))
      (refine' GG.grow_lit (GG.OneW.still (by decide)) rfl ?wtrp2 ?runrp2 ?putrp2 ?nextrp2; (case wtrp2 => rfl); (case runrp2 => (intro w' hS; (obtain ⟨dn, s, hS⟩ := hS); clear hS; go_simp; first | done | exact rfl)); (case putrp2 => (first | (simp only [Act.put, List.setIfInBounds_toArray, List.set_cons_zero, List.set_cons_succ]; first | done | exact rfl) | rfl)); (case' nextrp2 => skip))
      (refine' GG.grow_lit (GG.OneW.still (by decide)) rfl ?wtrp3 ?runrp3 ?putrp3 ?nextrp3; (case wtrp3 => rfl); (case runrp3 => (intro w' hS; (obtain ⟨dn, s, hS⟩ := hS); clear hS; go_simp; first | done | exact rfl)); (case putrp3 => (first | (simp only [Act.put, List.setIfInBounds_toArray, List.set_cons_zero, List.set_cons_succ]; first | done | exact rfl) | rfl)); (case' nextrp3 => skip))
      (refine' GG.grow_lit (GG.OneW.still (by decide)) rfl ?wtrp4 ?runrp4 ?putrp4 ?nextrp4; (case wtrp4 => rfl); (case runrp4 => (intro w' hS; (obtain ⟨dn, s, hS⟩ := hS); clear hS; go_simp; first | done | exact rfl)); (case putrp4 => (first | (simp only [Act.put, List.setIfInBounds_toArray, List.set_cons_zero, List.set_cons_succ]; first | done | exact rfl) | rfl)); (case' nextrp4 => skip))
      (refine' GG.grow_lit (GG.OneW.still (by decide)) rfl ?wtrp5 ?runrp5 ?putrp5 ?nextrp5; (case wtrp5 => rfl); (case runrp5 => (intro w' hS; (obtain ⟨dn, s, hS⟩ := hS); clear hS; go_simp; first | done | exact rfl)); (case putrp5 => (first | (simp only [Act.put, List.setIfInBounds_toArray, List.set_cons_zero, List.set_cons_succ]; first | done | exact rfl) | rfl)); (case' nextrp5 => skip))
      (refine' GG.grow_lit (GG.OneW.still (by decide)) rfl ?wtrp6 ?runrp6 ?putrp6 ?nextrp6; (case wtrp6 => rfl); (case runrp6 => (intro w' hS; (obtain ⟨dn, s, hS⟩ := hS); clear hS; go_simp; first | done | exact rfl)); (case putrp6 => (first | (simp only [Act.put, List.setIfInBounds_toArray, List.set_cons_zero, List.set_cons_succ]; first | done | exact rfl) | rfl)); (case' nextrp6 => skip))
      (refine' GG.grow_write (u := .int .i64 m) rfl ?wtrp7 ?runrp7 ?putrp7 ?nextrp7; (case wtrp7 => rfl); (case runrp7 => (intro dn s w' hS hd H; obtain ⟨w9, hr9, h9, hz9⟩ := (hS.g0 hd).copy HM.out hm2; exact ⟨(), w9, (by clear hS H; go_simp), GG.OneW.put h9, trivial, hz9⟩)); (case putrp7 => (first | (simp only [Act.put, List.setIfInBounds_toArray, List.set_cons_zero, List.set_cons_succ]; first | done | exact rfl) | rfl)); (case' nextrp7 => skip))
      (refine' GG.grow_lit (GG.OneW.still (by decide)) rfl ?wtrp8 ?runrp8 ?putrp8 ?nextrp8; (case wtrp8 => rfl); (case runrp8 => (intro w' hS; (obtain ⟨dn, s, hS⟩ := hS); clear hS; go_simp; first | done | exact rfl)); (case putrp8 => (first | (simp only [Act.put, List.setIfInBounds_toArray, List.set_cons_zero, List.set_cons_succ]; first | done | exact rfl) | rfl)); (case' nextrp8 => skip))
      intro dn s W1 hS hdn _
      have HA1 := Lib.hid (hS.g1 (hdn 7 (by decide)))
      clear hS hdn A0 HG HB HM
      refine wpAny_ready (rs := [9]) (by kernel_rfl) (by simp) (AllReady.cons rfl (fun K hK => ?_) AllReady.nil)
      go_simp
      refine hK _ _ ?_
      clear hK K
      refine wpAny_done (by kernel_rfl) ?_ _
      go_wp2_with fail
      go_roundw
      case rel => exact ⟨j + m, rfl, hm2, fun _ => by omega, HA1.out.1, HA1.out.2⟩
      case measure => simp [intOf]; omega
    · have hjn : j = n := by omega
      have HG := Lib.hid hg
      have HB := Lib.hid hb
      have hdl : decide (j < n) = false := by simpa using hlt
      clear hg hb hj0 hlt
      go_wp2_with fail
      go_ret
      exact ⟨rfl, by have := HG.out; rw [hjn] at this; unfold repL at this; rw [Nat.sub_self, List.replicate_zero, List.append_nil] at this; exact this, HB.out⟩

theorem hrepeat_z {n : Nat} (z : Int) (hn : n ≤ 16384) (hz : z = (n : Int)) (b : Nat) (w : World) (hb : Blk w b #[.int .i64 (-1)] 3) : Calls Tryz.prog 80 #[.slice (some ⟨b, 0, none⟩) 1 1, .int .i64 z] w (RepPost w n) := by
  subst hz
  exact hrepeat n hn b w hb
end Go.Proofs.YthfljimgpcignaaGreatDoor.RI

/-
  How many steps off: the program's steps.
-/
namespace Go.Proofs.YthfljimgpcignaaGreatDoor
open Go.RowKit

/-- Places as they are told. -/
def zV (l : List Nat) : List Value := l.map fun v : Nat => Value.int .i64 (v : Int)
theorem zV_len (l : List Nat) : (zV l).length = l.length := by simp [zV]
/-- What steps has in memory: how far off, the row. -/
structure StepM (w : World) (ob B : Nat) (off : List Int) (row : List Nat) (rv : Value) (wr : World) : Prop where
  o : Blk wr ob (numI off) 3
  r : wr.ownsRow B 3 1 rv row.length (zV row)
  b : Below w.heap.size w wr
  lo : w.heap.size ≤ ob
  ob : ob < B
  sz : B ≤ wr.heap.size
section
variable {w wr wr' : World} {ob B : Nat} {off : List Int} {row : List Nat} {rv : Value}
theorem StepM.old (h : StepM w ob B off row rv wr) (hb : Below wr.heap.size wr wr') : StepM w ob B off row rv wr' :=
  ⟨h.o.keep hb, own_below h.r hb, bOn6 h.b hb, h.lo, h.ob, Nat.le_trans h.sz hb.size⟩
theorem StepM.set (h : StepM w ob B off row rv wr) (v : Nat) (c : Int) : StepM w ob B (off.set v c) row rv (wr.setCell ⟨ob, v, none⟩ (.int .i64 c)) := by
  refine ⟨?_, own_other h.r (own_ne h.r h.ob) _ _, h.b.setCell h.lo _, h.lo, h.ob, by simpa using h.sz⟩
  have := h.o.set v (.int .i64 c)
  rwa [numI_set] at this
theorem StepM.app (h : StepM w ob B off row rv wr) (v : Nat) {g : Nat} (hb : Below wr.heap.size wr wr') (hg : Blk wr' g #[.int .i64 (v : Int)] 3) (hl : row.length ≤ 100000) :
    ∃ q c w', (Builtin.append_ #[39, 39] 39 #[rv, .slice (some ⟨g, 0, none⟩) 1 1]).run Tryz.prog wr' = .ok (.slice q (row.length + 1) c) w' ∧ StepM w ob B off (row ++ [v]) (.slice q (row.length + 1) c) w' := by
  have h' := h.old hb
  obtain ⟨q, c, w', hr, h1, h2⟩ := app1 (x := .int .i64 (v : Int)) Tryz.underlying39 infoInt rfl rfl (by decide) h'.r hg hl h'.sz
  refine ⟨q, c, w', hr, h'.o.grownO h2 (own_ne h'.r h'.ob), ?_, below_grownO h'.b h2 (fun g hg => by have := own_ge h'.r g hg; have := h.lo; have := h.ob; omega), h.lo, h.ob, Nat.le_trans h'.sz h2.size⟩
  rw [List.length_append]
  have e9 : zV (row ++ [v]) = zV row ++ [.int .i64 (v : Int)] := by simp [zV]
  rw [e9]
  exact h1
/-- A cell of the row. -/
theorem StepM.cell {q : Option Addr} {c : Nat} (h : StepM w ob B off row (.slice q row.length c) wr) {k v : Nat} (hk : row[k]? = some v) : ∃ g, q = some ⟨g, 0, none⟩ ∧ wr.cell? ⟨g, k, none⟩ = some (.int .i64 (v : Int)) ∧ g < wr.heap.size := by
  have hkl : k < row.length := (List.getElem?_eq_some_iff.1 hk).1
  rcases owns_blk h.r with ⟨e, e0⟩ | ⟨g, c', cur, e, hb, _⟩
  · omega
  · injection e with e1 e2 e3
    subst e1
    refine ⟨g, rfl, (h.r.cellAt k (by omega)).trans ?_, hb.lt⟩
    simp [zV, hk]
theorem StepM.offc (h : StepM w ob B off row rv wr) {v : Nat} (hv : v < off.length) : wr.cell? ⟨ob, v, none⟩ = some (.int .i64 (oL off v)) ∧ wr.frozen? ⟨ob, v, none⟩ = false ∧ ob < wr.heap.size := by
  rw [oL_at hv]
  exact ⟨h.o.cell v (numI_at hv), h.o.free v, h.o.lt⟩
end
/-- What steps answers. -/
def StepsPost (w : World) (N : Nat) (E : Edg) (f : List Int) (way : Int) (S : VSet) (e : Ending) (w' : World) : Prop :=
  ∃ ob off, e = .returned (.slice (some ⟨ob, 0, none⟩) N N) ∧ Blk w' ob (numI off) 3 ∧ w.heap.size ≤ ob ∧ LevQ N E f way S off ∧ Below w.heap.size w w'
/-- The first loop's head. -/
def Step1 (w : World) (ob B N : Nat) (E : Edg) (f : List Int) (way : Int) (S : VSet) (rv iv : Value) (wr : World) : Prop :=
  ∃ (k : Nat) (off : List Int) (row : List Nat), k ≤ N ∧ iv = .int .i64 k ∧ Bfs N E f way S k 0 off row ∧ StepM w ob B off row rv wr
/-- The second one's. -/
def Step2 (w : World) (ob B N : Nat) (E : Edg) (f : List Int) (way : Int) (S : VSet) (rv iv : Value) (wr : World) : Prop :=
  ∃ (k : Nat) (off : List Int) (row : List Nat), k ≤ row.length ∧ iv = .int .i64 k ∧ Bfs N E f way S N k off row ∧ StepM w ob B off row rv wr
/-- The third one's. -/
def Step3 (w : World) (ob B N : Nat) (E : Edg) (f : List Int) (way : Int) (S : VSet) (k u : Nat) (rv iv : Value) (wr : World) : Prop :=
  ∃ (j : Nat) (off : List Int) (row : List Nat), j ≤ (atL E u).length ∧ iv = .int .i64 j ∧ k < row.length ∧ row[k]? = some u ∧ Bfs N E f way S N k off row ∧ Looked E f way u j row ∧ StepM w ob B off row rv wr

section
variable {P : Nat → Prop} {w : World} {p N : Nat} {E : Edg} {A B M : List Bool} {f : List Int} {ev sv dv fv mv : Value} {ab : Nat} {us : List Value} {way : Int}
set_option maxHeartbeats 4000000 in
set_option maxRecDepth 100000 in
theorem steps_is (h : WebS P w p N E A B ev sv dv fv ab us) (hf : I64s w fv f) (hfl : f.length = E.length) (hm : Bools w mv M) (hml : M.length = N) (hway : way = 1 ∨ way = -1) :
    Calls Tryz.prog 67 #[pt p, mv, .int .i64 way] w (StepsPost w N E f way (setB M)) := by
  obtain ⟨mq, mc, rfl⟩ := hm.shape
  rw [hml] at hm
  rw [hml]
  have hnn := h.nn
  have HW := Lib.hid h
  have HF := Lib.hid hf
  have HFL := Lib.hid hfl
  have HM := Lib.hid hm
  have HML := Lib.hid hml
  have HWAY := Lib.hid hway
  obtain ⟨w1, hw1⟩ := named (w.alloc (.cells #[.int .i64 (-1)] 3))
  have hb1 : Below w.heap.size w w1 := by rw [hw1]; exact below_alloc1 _
  have k1 : Blk w1 w.heap.size #[.int .i64 (-1)] 3 := by rw [hw1]; exact Blk.new _ _ _ _ rfl
  have HB1 := Lib.hid hb1
  have HK1 := Lib.hid k1
  have e1 := hw1.symm
  obtain ⟨x0, x1, x2, x3, x4, -, -, -, -, -⟩ := (h.old hb1).k.o5
  have hpl := (h.old hb1).k.lt
  clear h hf hfl hm hml hway hb1 k1 hw1
  go_enter Tryz.func67, Tryz.ntmps67
  go_wp2_with fail
  clear e1
  refine (RI.hrepeat N (by omega) w.heap.size _ HK1.out).mono ?_
  rintro e w2 ⟨rfl, hk2, hb2⟩
  obtain ⟨ob, hob⟩ : ∃ ob, w1.heap.size = ob := ⟨_, rfl⟩
  rw [hob] at hk2
  rw [hob]
  have HST : Hid (StepM w ob w2.heap.size (List.replicate N (-1)) [] (.slice none 0 0) w2) := Lib.hid ⟨by rw [numI_rep]; exact hk2, World.ownsRow_nil _ _ _ _, bOn6 HB1.out hb2, by have := HB1.out.size; omega, hk2.lt, Nat.le_refl _⟩
  obtain ⟨Bs, hBs⟩ : ∃ Bs, w2.heap.size = Bs := ⟨_, rfl⟩
  rw [hBs] at HST
  clear hk2 hb2 hob hBs HB1 HK1 x0 x1 x2 x3 x4
  go_wp2_with fail
  go_loopw [8, 9, 10, 26] (fun rv _ _ iv wr => Step1 w ob Bs N E f way (setB M) rv iv wr) (fun _ _ _ iv _ => N - (intOf iv).toNat)
  case atStart => exact ⟨0, _, _, Nat.zero_le _, rfl, Bfs.start _ _ _ _ _, HST.out⟩
  case round =>
    obtain ⟨k, off, row, hk, rfl, hB, hs⟩ := hrel
    have hsm := hB.small hk
    obtain ⟨q9, c9, rfl⟩ := own_shape hs.r
    by_cases hlt : k < N
    · have hki : (k : Int) < (N : Int) := by omega
      obtain ⟨mb, mo, rfl, hmc⟩ := (HM.out.below hs.b).at (k := k) (by rw [HML.out]; exact hlt)
      have hmlt := World.block_lt_of_cell? wr _ hmc
      have hst : setB M k = M[k]'(by rw [HML.out]; exact hlt) := setB_at (by rw [HML.out]; exact hlt)
      rw [← hst] at hmc
      have HBF := Lib.hid hB
      clear HST hst
      cases hb : setB M k with
      | true =>
        rw [hb] at hmc
        obtain ⟨oc, of, ol⟩ := hs.offc (v := k) (by rw [hB.len]; exact hlt)
        obtain ⟨q2, c2, w5, hr5, hs5⟩ := (hs.set k 0).app k (below_alloc1 _) (Blk.new _ _ _ wr.heap.size (by simp)) (by omega)
        have HR5 := Lib.hid hr5
        have HS5 := Lib.hid hs5
        have HBN := Lib.hid (hB.mark_yes hb hlt)
        clear hr5 hs5 hs hB hsm
        go_wp2_with (at_builtin; refine wpList_append_run (by rfl) _ _ _ rfl _ _ _ rfl rfl HR5.out ?_)
        go_roundw
        case rel => exact ⟨k + 1, _, _, by omega, by go_num, HBN.out, HS5.out⟩
        case measure => simp [intOf]; omega
      | false =>
        rw [hb] at hmc
        have HS := Lib.hid hs
        have HBN := Lib.hid (hB.mark_no hb)
        clear hs hB hsm
        go_wp2_with fail
        go_roundw
        case rel => exact ⟨k + 1, _, _, by omega, by go_num, HBN.out, HS.out⟩
        case measure => simp [intOf]; omega
    · obtain rfl : k = N := by omega
      have HBN := Lib.hid hB
      have HS := Lib.hid hs
      clear HST hB hs hsm hlt
      go_wp2_with fail
      go_loopw [8, 11, 12, 14, 15, 16] (fun rv iv _ _ _ _ wr => Step2 w ob Bs k E f way (setB M) rv iv wr) (fun _ iv _ _ _ _ _ => k - (intOf iv).toNat)
      case atStart => exact ⟨0, off, row, Nat.zero_le _, rfl, HBN.out, HS.out⟩
      case round =>
        obtain ⟨m, off, row, hm, rfl, hB, hs⟩ := hrel
        have hsm := hB.small (Nat.le_refl _)
        obtain ⟨q9, c9, rfl⟩ := own_shape hs.r
        have hN := hB.len
        have hmi : (m : Int) ≤ 4096 := by omega
        by_cases hlt : m < row.length
        · obtain ⟨u, hu⟩ : ∃ u, row[m]? = some u := ⟨_, List.getElem?_eq_getElem hlt⟩
          obtain ⟨g, rfl, gc, gl⟩ := hs.cell hu
          have huk : u < k := hB.mem u (List.mem_of_getElem? hu)
          obtain ⟨x0, x1, x2, x3, x4, -, -, -, -, -⟩ := (HW.out.old hs.b).k.o5
          have hpl := (HW.out.old hs.b).k.lt
          have huu : u < us.length := by rw [HW.out.ul]; exact huk
          obtain ⟨uv, huv⟩ : ∃ uv, us[u] = uv := ⟨_, rfl⟩
          have hus : us[u]? = some uv := by rw [← huv]; exact List.getElem?_eq_getElem huu
          have hac := (HW.out.old hs.b).b.cell u (by rw [List.getElem?_toArray]; exact hus)
          have hal := (HW.out.old hs.b).b.lt
          have hui := ((HW.out.old hs.b).u u uv hus).1
          obtain ⟨uq, uc, rfl⟩ := hui.shape
          have hki : (u : Int) < (k : Int) := by omega
          have HR0 : Hid (Step3 w ob Bs k E f way (setB M) m u (.slice (some ⟨g, 0, none⟩) row.length c9) (.int .i64 (0 : Nat)) wr) := Lib.hid ⟨0, off, row, Nat.zero_le _, rfl, hlt, hu, hB, Looked.zero, hs⟩
          have hai : (atL E u).length ≤ 32768 := by have := atTo_len E u E.length; have := HW.out.en; unfold atL; omega
          have HUI := Lib.hid ((HW.out.u u _ hus).1)
          clear hus huv huu hui hs hB hsm hN HBN HS hu
          go_wp2_with fail
          clear x0 x1 x2 x3 x4 hpl hac hal gc gl
          go_loopw [8, 14, 15, 16, 58] (fun rv _ _ _ iv wr => Step3 w ob Bs k E f way (setB M) m u rv iv wr) (fun _ _ _ _ iv _ => (atL E u).length - (intOf iv).toNat)
          case atStart => exact HR0.out
          case round =>
            obtain ⟨j, off, row, hj, rfl, hml, hu, hB, hL, hs⟩ := hrel
            have hsm := hB.small (Nat.le_refl _)
            have hlen := hB.len
            obtain ⟨q9, c9, rfl⟩ := own_shape hs.r
            clear HR0
            by_cases hlt : j < (atL E u).length
            · obtain ⟨i, hiE, hij, -⟩ := atTo_mem.1 (List.getElem_mem hlt)
              have hji : (j : Int) < ((atL E u).length : Int) := by omega
              obtain ⟨b, o, rfl, hic⟩ := (HUI.out.below hs.b).at hlt
              have hil := World.block_lt_of_cell? wr _ hic
              have hij2 : (atL E u)[j]? = some (i : Int) := by rw [List.getElem?_eq_getElem hlt]; exact congrArg some hij
              rw [show (atL E u)[j] = (i : Int) from hij] at hic
              obtain ⟨x, y, hxy⟩ : ∃ x y, alongE E i u = (x, y) := ⟨_, _, rfl⟩
              have hx : x < k := by
                have := HW.out.ein i hiE
                unfold alongE at hxy
                split at hxy
                · have := (Prod.mk.inj hxy).1; omega
                · have := (Prod.mk.inj hxy).1; omega
              have hy : y = 1 ∨ y = -1 := by
                unfold alongE at hxy
                split at hxy
                · exact Or.inl (Prod.mk.inj hxy).2.symm
                · exact Or.inr (Prod.mk.inj hxy).2.symm
              have huk : u < k := hB.mem u (List.mem_of_getElem? hu)
              go_wp2_with fail
              refine (along_is (HW.out.old hs.b) hiE hxy).mono ?_
              rintro e w5 ⟨rfl, hb5⟩
              have hs5 := hs.old hb5
              obtain ⟨fq, fc, rfl⟩ := HF.out.shape
              have hif : i < f.length := by rw [HFL.out]; exact hiE
              obtain ⟨fb, fo, hfq, hfc⟩ := (HF.out.below hs5.b).at hif
              subst hfq
              have hfl := World.block_lt_of_cell? w5 _ hfc
              have hfi : f[i] = fL f i := by simp [fL, hif]
              rw [hfi] at hfc
              obtain ⟨x0, x1, x2, x3, x4, -, -, -, -, -⟩ := (HW.out.old hs5.b).k.o5
              have hpl := (HW.out.old hs5.b).k.lt
              obtain ⟨oc, of, ol⟩ := hs5.offc (v := x) (by rw [hlen]; exact hx)
              have oc2 := (hs5.offc (v := u) (by rw [hlen]; exact huk)).1
              have hyu := hB.yes u (List.mem_of_getElem? hu)
              have hwy : IntKind.i64.wrap (way * y) = way * y := by
                rcases HWAY.out with rfl | rfl <;> rcases hy with rfl | rfl <;> rfl
              have hwo : IntKind.i64.wrap (oL off u + 1) = oL off u + 1 := IntWalk.i64_in _ (by omega)
              have hxi : (x : Int) < (k : Int) := by omega
              have hui : (u : Int) < (k : Int) := by omega
              have hii : (i : Int) < (f.length : Int) := by omega
              have hmem : (i : Int) ∈ atL E u := List.mem_of_getElem? hij2
              by_cases ho : oL off x = -1
              · by_cases hne : fL f i = way * y
                · have HR1 : Hid (Step3 w ob Bs k E f way (setB M) m u (.slice q9 row.length c9) (.int .i64 ((j + 1 : Nat) : Int)) w5) := Lib.hid ⟨j + 1, off, row, by omega, rfl, hml, hu, hB, hL.step hij2 (fun _ h => h) (fun v w' ha hf => by
                    rw [hxy] at ha
                    obtain ⟨rfl, rfl⟩ := Prod.mk.inj ha
                    exact absurd hne hf), hs5⟩
                  have h1 : (oL off x == -1) = true := by simpa using ho
                  have h2 : (fL f i != way * y) = false := by simpa using hne
                  clear hs hs5 hB hL hu hb5 hij hij2 hic hil hmem hne ho hxy hfi
                  go_wp2_with fail
                  go_roundw
                  case rel => exact HR1.out
                  case measure => simp [intOf]; omega
                · have hroom : Room E f way u x := room_along (w := y) ⟨i, hmem, hxy, hne⟩
                  have hB2 := hB.add (List.mem_of_getElem? hu) (by rw [← hlen]; omega) ho hroom (by omega)
                  obtain ⟨q2, c2, w6, hr6, hs6⟩ := (hs5.set x (oL off u + 1)).app x (below_alloc1 _) (Blk.new _ _ _ w5.heap.size (by simp)) (by omega)
                  have HR1 : Hid (Step3 w ob Bs k E f way (setB M) m u (.slice q2 (row.length + 1) c2) (.int .i64 ((j + 1 : Nat) : Int)) w6) := Lib.hid ⟨j + 1, _, row ++ [x], by omega, rfl, by rw [List.length_append]; omega, by rw [List.getElem?_append_left hml]; exact hu, hB2, hL.step hij2 (fun _ h => List.mem_append_left _ h) (fun v w' ha hf => by
                    rw [hxy] at ha
                    obtain ⟨rfl, rfl⟩ := Prod.mk.inj ha
                    simp), hs6⟩
                  have HR6 := Lib.hid hr6
                  have h1 : (oL off x == -1) = true := by simpa using ho
                  have h2 : (fL f i != way * y) = true := by simpa using hne
                  have hob := hs5.lo
                  clear hs hs5 hs6 hr6 hB hB2 hL hu hb5 hij hij2 hic hil hmem hne ho hxy hfi hroom
                  go_wp2_with (at_builtin; refine wpList_append_run (by rfl) _ _ _ rfl _ _ _ rfl rfl HR6.out ?_)
                  go_roundw
                  case rel => exact HR1.out
                  case measure => simp [intOf]; omega
              · have HR1 : Hid (Step3 w ob Bs k E f way (setB M) m u (.slice q9 row.length c9) (.int .i64 ((j + 1 : Nat) : Int)) w5) := Lib.hid ⟨j + 1, off, row, by omega, rfl, hml, hu, hB, hL.step hij2 (fun _ h => h) (fun v w' ha hf => by
                    rw [hxy] at ha
                    obtain ⟨rfl, rfl⟩ := Prod.mk.inj ha
                    exact Classical.byContradiction fun hn => ho (hB.no x hn)), hs5⟩
                have h1 : (oL off x == -1) = false := by simpa using ho
                clear hs hs5 hB hL hu hb5 hij hij2 hic hil hmem ho hxy hfi hfc
                go_wp2_with fail
                go_roundw
                case rel => exact HR1.out
                case measure => simp [intOf]; omega
            · obtain rfl : j = (atL E u).length := by omega
              have HR1 : Hid (Step2 w ob Bs k E f way (setB M) (.slice q9 row.length c9) (.int .i64 ((m + 1 : Nat) : Int)) wr) := Lib.hid ⟨m + 1, off, row, hml, rfl, hB.next hu (hL.all (List.mem_of_getElem? hu)), hs⟩
              clear hs hB hL hu
              go_wp2_with fail
              go_roundw
              case rel => exact HR1.out
              case measure => simp [intOf]; omega
        · obtain rfl : m = row.length := by omega
          have HP : Hid (StepsPost w k E f way (setB M) (.returned (.slice (some ⟨ob, 0, none⟩) k k)) wr) := Lib.hid ⟨ob, off, rfl, hs.o, hs.lo, hB.out HW.out.ein (fun v hv => by have := setB_lt hv; rw [HML.out] at this; exact this), hs.b⟩
          clear hs hB
          go_wp2_with fail
          go_ret
          exact HP.out
end
end Go.Proofs.YthfljimgpcignaaGreatDoor

/-
  A row of rows that grow one by one, each in a block of its own.
-/
namespace Go.Proofs.YthfljimgpcignaaGreatDoor
open Go.RowKit

theorem infoRowI : (Tryz.prog.info? 39).map (fun i => (i.zero, i.size, i.bytes)) = some (some (.slice none 0 0), 1, 24) := by kernel_rfl
theorem Keep.on {P : Nat → Prop} {w w' w'' : World} (h : Keep P w w') (hb : Below w.heap.size w' w'') : Keep P w w'' :=
  ⟨hb.os.trans h.os, hb.tape.trans h.tape, hb.output.trans h.output, Nat.le_trans h.size hb.size, fun k hk hp => (hb.block k hk).trans (h.block k hk hp)⟩
/-- No two of these rows lie in one block. -/
def Dis1 (us : List Value) : Prop := ∀ (i j : Nat) (u u' : Value) (g : Nat), i ≠ j → us[i]? = some u → us[j]? = some u' → u.ownBlock = some g → u'.ownBlock ≠ some g
def OwnL (w : World) (base : Nat) (us : List Value) (L : Nat → List Int) : Prop := ∀ (i : Nat) (u : Value), us[i]? = some u → w.ownsRow base 3 1 u (L i).length ((L i).map (Value.int .i64))
structure AtR (m : Nat) (L : Nat → List Int) (ab : Nat) (w0 w : World) : Prop where
  rows : ∃ us : List Value, Blk w ab us.toArray 39 ∧ us.length = m ∧ OwnL w w0.heap.size us L ∧ Dis1 us
  kp : Keep (fun b => b ≠ ab) w0 w
  lt : ab < w0.heap.size
/-- .. where the row of v has grown to v', which isn't put in its place yet. -/
structure AtP (m : Nat) (L : Nat → List Int) (ab v : Nat) (v' : Value) (w0 w : World) : Prop where
  rows : ∃ us : List Value, Blk w ab us.toArray 39 ∧ us.length = m ∧ v < m ∧ OwnL w w0.heap.size (us.set v v') L ∧ Dis1 (us.set v v')
  kp : Keep (fun b => b ≠ ab) w0 w
  lt : ab < w0.heap.size
theorem owns_set {w : World} {base : Nat} {e : TypeId} {size : Nat} {v : Value} {n : Nat} {xs : List Value} (h : w.ownsRow base e size v n xs) {k : Nat} {cs : Array Value} {t : TypeId} (hk : Blk w k cs t) (hne : e ≠ t) (o : Nat) (x : Value) : (w.setCell ⟨k, o, none⟩ x).ownsRow base e size v n xs :=
  own_other h (own_ne_blk h hk hne) o x
section
variable {m : Nat} {L : Nat → List Int} {ab : Nat} {w0 w w' : World}
theorem OwnL.below {base : Nat} {us : List Value} (h : OwnL w base us L) (hb : Below w.heap.size w w') : OwnL w' base us L := fun i u hu => own_below (h i u hu) hb
theorem AtR.old (h : AtR m L ab w0 w) (hb : Below w.heap.size w w') : AtR m L ab w0 w' := by
  obtain ⟨us, h1, h2, h3, h4⟩ := h.rows
  exact ⟨⟨us, h1.keep hb, h2, h3.below hb, h4⟩, h.kp.on (hb.mono h.kp.size), h.lt⟩
theorem AtP.old {v : Nat} {v' : Value} (h : AtP m L ab v v' w0 w) (hb : Below w.heap.size w w') : AtP m L ab v v' w0 w' := by
  obtain ⟨us, h1, h2, hv, h3, h4⟩ := h.rows
  exact ⟨⟨us, h1.keep hb, h2, hv, h3.below hb, h4⟩, h.kp.on (hb.mono h.kp.size), h.lt⟩
theorem AtR.cell (h : AtR m L ab w0 w) {v : Nat} (hv : v < m) (hl : (L v).length ≤ 100000) : ∃ q c, w.cell? ⟨ab, v, none⟩ = some (.slice q (L v).length c) ∧ I64s w (.slice q (L v).length c) (L v) := by
  obtain ⟨us, h1, h2, h3, h4⟩ := h.rows
  have hvu : v < us.length := by omega
  have hus : us[v]? = some us[v] := List.getElem?_eq_getElem hvu
  have ho := h3 v _ hus
  obtain ⟨q, c, e⟩ := own_shape ho
  refine ⟨q, c, ?_, ?_⟩
  · rw [← e]; exact h1.cell v (by rw [List.getElem?_toArray]; exact hus)
  · rw [← e]; exact ints_of_owns ho (by omega)
theorem AtP.put {v : Nat} {v' : Value} (h : AtP m L ab v v' w0 w) : (∃ u, w.cell? ⟨ab, v, none⟩ = some u) ∧ w.frozen? ⟨ab, v, none⟩ = false ∧ ab < w.heap.size ∧ AtR m L ab w0 (w.setCell ⟨ab, v, none⟩ v') := by
  obtain ⟨us, h1, h2, hv, h3, h4⟩ := h.rows
  refine ⟨⟨us[v], h1.cell v (by rw [List.getElem?_toArray]; exact List.getElem?_eq_getElem (by omega))⟩, h1.free v, h1.lt, ⟨us.set v v', ?_, by simpa using h2, fun i x hx => owns_set (h3 i x hx) h1 (by decide) _ _, h4⟩, h.kp.setCell (fun k => k rfl) _ _, h.lt⟩
  have := h1.set v v'
  rwa [List.setIfInBounds_toArray] at this
theorem AtR.app {L' : Nat → List Int} {v : Nat} {x : Int} {g : Nat} {u : Value} (h : AtR m L ab w0 w) (hu : w.cell? ⟨ab, v, none⟩ = some u) (hg : Blk w g #[.int .i64 x] 3) (hv : v < m) (hlen : (L v).length ≤ 100000) (hL : L' v = L v ++ [x]) (hO : ∀ i, i ≠ v → L' i = L i) :
    ∃ q' n' c' w', (Builtin.append_ #[39, 39] 39 #[u, .slice (some ⟨g, 0, none⟩) 1 1]).run Tryz.prog w = .ok (.slice q' n' c') w' ∧ AtP m L' ab v (.slice q' n' c') w0 w' ∧ w.heap.size ≤ w'.heap.size ∧ w'.cell? ⟨ab, v, none⟩ = some u ∧ ∀ g cs t, Blk w g cs t → 3 ≠ t → Blk w' g cs t := by
  obtain ⟨us1, h1, h3, h5, h7⟩ := h.rows
  obtain ⟨i0, hi, hz0, hz1, hz2⟩ := info_parts infoInt
  have hvu : v < us1.length := by omega
  have hus : us1[v]? = some us1[v] := List.getElem?_eq_getElem hvu
  obtain rfl : u = us1[v] := Option.some.inj (hu.symm.trans (h1.cell v (by rw [List.getElem?_toArray]; exact hus)))
  have o1 := h5 v _ hus
  have hz9 : w0.heap.size ≤ w.heap.size := h.kp.size
  obtain ⟨v', w', hr, r1, r2, -, r4⟩ := run_append_own_at (P := Tryz.prog) w w0.heap.size 39 39 3 i0 (.int .i64 0) 1 8 Tryz.underlying39 hi hz0 hz1 hz2 rfl (by decide) us1[v] (L v).length _ o1 ⟨g, 0, none⟩ 1 1 [.int .i64 x] rfl
    (fun j u hj => by
      rcases j with _ | j
      · simp only [List.getElem?_cons_zero, Option.some.injEq] at hj
        subst hj
        exact hg.cell 0 rfl
      · simp at hj) (by intro u hu; simp at hu; subst hu; rfl) (by unfold maxLen; omega) (by omega) hz9
  have new : ∀ {y : Value} {g' : Nat}, (∃ L, w.ownsRow w0.heap.size 3 1 y (L : List Int).length (L.map (Value.int .i64))) → y.ownBlock = some g' → (∀ g'', us1[v].ownBlock = some g'' → y.ownBlock ≠ some g'') → v'.ownBlock ≠ some g' := fun ⟨L, hy⟩ hg' hne => by
    rcases r4 with r4 | r4
    · rw [r4]
      intro e
      exact hne _ e hg'
    · rw [r4]
      intro e
      injection e with e
      have := (hy.lt _ hg').2
      omega
  have hbw : Below w0.heap.size w w' := (Below.refl _ _).grown r2 hz9 (fun g' hg' => own_ge o1 g' (by simpa using hg'))
  have hP : AtP m L' ab v v' w0 w' := by
    refine ⟨⟨us1, h1.grownO r2 (own_ne_blk o1 h1 (by decide)), h3, hv, fun i y hui => ?_, fun i j y y' g' hij hi' hj' hg' => ?_⟩, h.kp.on hbw, h.lt⟩
    · by_cases hiv : i = v
      · subst hiv
        rw [List.getElem?_set_self hvu] at hui
        injection hui with hui
        subst hui
        rw [hL, List.length_append, List.map_append]
        exact r1
      · rw [List.getElem?_set_ne (by omega)] at hui
        rw [hO i hiv]
        refine (h5 i y hui).kept r2 ?_
        cases hub : y.ownBlock with
        | none => exact Or.inl rfl
        | some g' => exact Or.inr (fun e => h7 i v y _ g' hiv hui hus hub e.symm)
    · by_cases hiv : i = v
      · subst hiv
        rw [List.getElem?_set_self hvu] at hi'
        injection hi' with hi'
        subst hi'
        rw [List.getElem?_set_ne (by omega)] at hj'
        intro e
        exact new ⟨_, h5 j y' hj'⟩ e (fun g'' hg'' => h7 i j _ y' g'' hij hus hj' hg'') hg'
      · rw [List.getElem?_set_ne (by omega)] at hi'
        by_cases hjv : j = v
        · subst hjv
          rw [List.getElem?_set_self hvu] at hj'
          injection hj' with hj'
          subst hj'
          exact new ⟨_, h5 i y hi'⟩ hg' (fun g'' hg'' => h7 j i _ y g'' (fun e => hij e.symm) hus hi' hg'')
        · rw [List.getElem?_set_ne (by omega)] at hj'
          exact h7 i j y y' g' hij hi' hj' hg'
  have hcell : w'.cell? ⟨ab, v, none⟩ = some us1[v] := (h1.grownO r2 (own_ne_blk o1 h1 (by decide))).cell v (by rw [List.getElem?_toArray]; exact hus)
  obtain ⟨q', c', rfl⟩ := own_shape r1
  exact ⟨q', _, c', w', hr, hP, r2.size, hcell, fun g cs t hk hne => hk.grownO r2 (own_ne_blk o1 hk hne)⟩
end
/-! ### .. in a region that draws its order -/
theorem GG.exec_append {P : Program} {o : Oper} {ρ : Operand → Value} {w w' : World} (s x : Operand) (t : TypeId) (ho : o.op = .call { callee := .builtin .append, args := #[s, x], argTypes := #[t, t] })
    {v sv v' : Value} (hs : ρ s = v) (hx : ρ x = sv) (hr : (Builtin.append_ #[t, t] o.type #[v, sv]).run P w = .ok v' w') : (execOp ρ o).run P w = .ok (.value v') w' := by
  unfold execOp
  simp only [ho, resolve, invoke, builtin, Sem.run_bind, Sem.run_pure, Result.andThen_ok, List.map_toArray, List.map_cons, List.map_nil, hs, hx, hr]
/-- A row grows in a region that draws its order: whether it has. -/
def GG.RlA (s : Bool) (w : World) (s' : Bool) (w' : World) : Prop := (s = true → s' = true) ∧ (s = s' → Below w.heap.size w w')
def GG.LitI (x : Int) (v : Value) (s : Bool) (w : World) : Prop := s = false → ∃ g, v = .slice (some ⟨g, 0, none⟩) 1 1 ∧ Blk w g #[.int .i64 x] 3
theorem GG.LitI.st (x : Int) (v : Value) (s : Bool) (w : World) (s' : Bool) (w' : World) (h : GG.LitI x v s w) (hr : GG.RlA s w s' w') : GG.LitI x v s' w' := by
  intro e
  cases s with
  | true => rw [hr.1 rfl] at e; cases e
  | false =>
    obtain ⟨g, e1, e2⟩ := h rfl
    exact ⟨g, e1, e2.keep (hr.2 e.symm)⟩
structure GG.S1 (j m : Nat) (L : Nat → List Int) (ab v : Nat) (u : Value) (gg : Nat) (gc : Array Value) (w0 : World) (dn : Nat → Bool) (s : Bool) (w : World) : Prop where
  here : dn j = s
  r : s = false → AtR m L ab w0 w
  k : Keep (fun b => b ≠ ab) w0 w
  c : w.cell? ⟨ab, v, none⟩ = some u
  g : Blk w gg gc 44
section
variable {j m : Nat} {L : Nat → List Int} {ab v gg : Nat} {u : Value} {gc : Array Value} {w0 : World} {dn : Nat → Bool} {s : Bool} {w w' : World}
theorem GG.S1.step (h : GG.S1 j m L ab v u gg gc w0 dn s w) {i : Nat} (hi : j ≠ i) : GG.S1 j m L ab v u gg gc w0 (GG.doneG dn i) s w :=
  ⟨by show (if j = i then true else dn j) = s; rw [if_neg hi]; exact h.here, h.r, h.k, h.c, h.g⟩
theorem GG.S1.still {i : Nat} (hi : j ≠ i) : GG.Still (GG.S1 j m L ab v u gg gc w0) GG.RlA i :=
  ⟨fun _ _ _ h => h.step hi, fun _ _ => ⟨id, fun _ => Below.refl _ _⟩⟩
theorem GG.S1.old (h : GG.S1 j m L ab v u gg gc w0 dn s w) (hb : Below w.heap.size w w') : GG.S1 j m L ab v u gg gc w0 dn s w' :=
  ⟨h.here, fun e => (h.r e).old hb, h.k.on (hb.mono h.k.size), keep hb h.c, h.g.keep hb⟩
end
def GG.App1 (m : Nat) (L : Nat → List Int) (ab v : Nat) (w0 : World) (v' : Value) (s : Bool) (w : World) : Prop := s = true ∧ (∃ q n c, v' = .slice q n c) ∧ AtP m L ab v v' w0 w
theorem GG.App1.st (m : Nat) (L : Nat → List Int) (ab v : Nat) (w0 : World) (v' : Value) (s : Bool) (w : World) (s' : Bool) (w' : World) (h : GG.App1 m L ab v w0 v' s w) (hr : GG.RlA s w s' w') : GG.App1 m L ab v w0 v' s' w' :=
  ⟨hr.1 h.1, h.2.1, h.2.2.old (hr.2 (by rw [h.1, hr.1 h.1]))⟩

/-! ### marks -/
/-- Of each of N vertices whether it is in the row. -/
def markL (N : Nat) (S : List Nat) : List Bool := (List.range N).map fun v => decide (v ∈ S)
theorem markL_len {N : Nat} {S : List Nat} : (markL N S).length = N := by simp [markL]
theorem markL_nil (N : Nat) : markL N [] = List.replicate N false := by
  refine List.ext_getElem (by simp [markL]) fun i h1 h2 => ?_
  simp [markL]
theorem markL_snoc {N x : Nat} {S : List Nat} : (markL N S).set x true = markL N (S ++ [x]) := by
  refine List.ext_getElem (by simp [markL]) fun i h1 h2 => ?_
  rw [List.getElem_set]
  by_cases h : x = i
  · subst h
    simp [markL]
  · rw [if_neg h]
    have : ¬ i = x := fun e => h e.symm
    simp [markL, this]
theorem markL_in {N v : Nat} {S : List Nat} (h : v < N) : setB (markL N S) v = decide (v ∈ S) := by
  rw [setB_at (by rw [markL_len]; exact h)]
  simp [markL]
/-- Numbers as they are told. -/
def zN (S : List Nat) : List Int := S.map fun v : Nat => (v : Int)
theorem zN_len (S : List Nat) : (zN S).length = S.length := by simp [zN]
set_option maxHeartbeats 2000000 in
set_option maxRecDepth 100000 in
theorem marks_is {w : World} {v : Value} {N : Nat} {S : List Nat} (h : I64s w v (zN S)) (hS : ∀ x, x ∈ S → x < N) (hN : N ≤ 4096) (hl : S.length ≤ 1000000) :
    Calls Tryz.prog 64 #[.int .i64 N, v] w fun e w' => e = .returned (.slice (some ⟨w.heap.size, 0, none⟩) N N) ∧ Blk w' w.heap.size (bolB (markL N S)) 4 ∧ Below w.heap.size w w' := by
  obtain ⟨q, c, rfl⟩ := h.shape
  rw [zN_len]
  have HV := Lib.hid h
  have HS := Lib.hid hS
  have hmk := RI.make1 w 23 4 (.bool false) 1 rfl Tryz.underlying23 infoBool N (by omega) (by decide)
  obtain ⟨w1, hw1⟩ := named (w.alloc (.cells (List.replicate N (.bool false)).toArray 4))
  have hb1 : Below w.heap.size w w1 := by rw [hw1]; exact below_alloc1 _
  have k1 : Blk w1 w.heap.size (bolB (markL N (S.take 0))) 4 := by rw [hw1, List.take_zero, markL_nil, bolB_rep]; exact Blk.new _ _ _ _ rfl
  rw [← hw1] at hmk
  have HB1 := Lib.hid hb1
  have HK1 := Lib.hid k1
  clear h hS hb1 k1 hw1
  go_enter Tryz.func64, Tryz.ntmps64
  go_wp2_with fail
  clear hmk
  go_loopw [7, 12] (fun _ iv wr => ∃ k : Nat, k ≤ S.length ∧ iv = .int .i64 k ∧ Blk wr w.heap.size (bolB (markL N (S.take k))) 4 ∧ Below w.heap.size w wr) (fun _ iv _ => S.length - (intOf iv).toNat)
  case atStart => exact ⟨0, Nat.zero_le _, rfl, HK1.out, HB1.out⟩
  case round =>
    obtain ⟨k, hk, rfl, hkb, hb⟩ := hrel
    by_cases hlt : k < S.length
    · have hki : (k : Int) < (S.length : Int) := by omega
      have hzl := zN_len S
      have HV2 : Hid (I64s wr (.slice q S.length c) (zN S)) := Lib.hid (by have := HV.out.below hb; rwa [zN_len] at this)
      obtain ⟨eb, eo, rfl, ec⟩ := HV2.out.at (k := k) (by omega)
      obtain ⟨x, hx⟩ : ∃ x, S[k] = x := ⟨_, rfl⟩
      rw [show (zN S)[k]'(by omega) = (x : Int) from by simp [zN, hx]] at ec
      have hxN : x < N := HS.out x (by rw [← hx]; exact List.getElem_mem hlt)
      have hxi : (x : Int) < (N : Int) := by omega
      have hel := World.block_lt_of_cell? wr _ ec
      have xc := hkb.cell x (bolB_at (l := markL N (S.take k)) (by rw [markL_len]; exact hxN))
      have xf := hkb.free x
      have xl := hkb.lt
      have hk2 := hkb.set x (.bool true)
      rw [bolB_set, markL_snoc, show S.take k ++ [x] = S.take (k + 1) from by rw [List.take_succ_eq_append_getElem hlt, hx]] at hk2
      have HR : Hid (Blk (wr.setCell ⟨w.heap.size, x, none⟩ (.bool true)) w.heap.size (bolB (markL N (S.take (k + 1)))) 4 ∧ Below w.heap.size w (wr.setCell ⟨w.heap.size, x, none⟩ (.bool true))) := Lib.hid ⟨hk2, hb.setCell (Nat.le_refl _) _⟩
      clear hk2 hkb hb hx HK1 HB1 hzl
      go_wp2_with fail
      go_roundw
      case rel => exact ⟨k + 1, hlt, by go_num, HR.out.1, HR.out.2⟩
      case measure => simp [intOf]; omega
    · obtain rfl : k = S.length := by omega
      have HP := Lib.hid (And.intro hkb hb)
      clear hkb hb HK1 HB1
      go_wp2_with fail
      go_ret
      refine ⟨rfl, ?_, HP.out.2⟩
      have := HP.out.1
      rwa [List.take_length] at this
end Go.Proofs.YthfljimgpcignaaGreatDoor

/-
  The web of what may be handed in: the program's webOf.
-/
namespace Go.Proofs.YthfljimgpcignaaGreatDoor
open Go.RowKit

/-- A region that only makes memory. -/
structure GG.BelS (W : World) (_ : Nat → Bool) (_ : Unit) (w : World) : Prop where
  b : Below W.heap.size W w
def GG.RlB (_ : Unit) (w : World) (_ : Unit) (w' : World) : Prop := Below w.heap.size w w'
theorem GG.BelS.still {W : World} {i : Nat} : GG.Still (GG.BelS W) GG.RlB i := ⟨fun _ _ _ h => ⟨h.b⟩, fun _ _ => Below.refl _ _⟩
/-- A row that is new, whole in a block. -/
def RowN (W : World) (N : Nat) (cs : Array Value) (e : TypeId) (v : Value) (_ : Unit) (w : World) : Prop := ∃ b, v = .slice (some ⟨b, 0, none⟩) N N ∧ Blk w b cs e ∧ W.heap.size ≤ b
theorem RowN.st {W : World} {N : Nat} {cs : Array Value} {e : TypeId} (v : Value) (s : Unit) (w : World) (s' : Unit) (w' : World) (h : RowN W N cs e v s w) (hr : GG.RlB s w s' w') : RowN W N cs e v s' w' := by
  obtain ⟨b, e1, hk, hl⟩ := h
  exact ⟨b, e1, hk.keep hr, hl⟩
theorem make_rows (N : Nat) (hN : N ≤ 16384) (w : World) : (Instr.makeSlice 123 (.int .i64 (N : Int)) (.int .i64 (N : Int))).run Tryz.prog w = .ok (.slice (some ⟨w.heap.size, 0, none⟩) N N) (w.alloc (.cells (List.replicate N (Value.slice none 0 0)).toArray 39)) := by
  obtain ⟨i0, hi, hz0, hz1, hz2⟩ := info_parts infoRowI
  have hbn : (i0.bytes : Int) * (N : Int) ≤ 281474976710656 := by rw [hz2]; omega
  have := run_make (P := Tryz.prog) w 123 39 i0 (.slice none 0 0) Tryz.underlying123 hi hz0 .i64 .i64 N N (by omega) (Int.le_refl _) hbn (by omega)
  rw [hz1, show (Value.slice none 0 0).cells = #[Value.slice none 0 0] from rfl, Nat.mul_one, Int.toNat_natCast, RI.made1] at this
  exact this
theorem blk_ne {w : World} {b b' : Nat} {cs cs' : Array Value} {t t' : TypeId} (h : Blk w b cs t) (h' : Blk w b' cs' t') (ht : t ≠ t') : b ≠ b' := by
  rintro rfl
  unfold Blk at h h'
  rw [h] at h'
  injection h' with h'
  injection h' with _ h'
  exact ht h'
theorem own_av {P : Nat → Prop} {w : World} {base : Nat} {e : TypeId} {size : Nat} {v : Value} {n : Nat} {xs : List Value} (h : w.ownsRow base e size v n xs) (hp : ∀ g, base ≤ g → P g) : Av P v := by
  rcases h.2 with ⟨rfl, e0⟩ | ⟨g, cap, cur, rfl, hg, _⟩
  · exact Av.nil _ _ _
  · exact Av.at (hp g hg)
/-- What webOf answers. -/
def WebPost (P : Nat → Prop) (w : World) (N : Nat) (E : Edg) (S D : List Nat) (ev fv : Value) (e : Ending) (w' : World) : Prop :=
  ∃ p ab us sv dv, e = .returned (pt p) ∧ WebS P w' p N E (markL N S) (markL N D) ev sv dv fv ab us ∧ w.heap.size ≤ p ∧ w.heap.size ≤ ab ∧ Below w.heap.size w w'
/-- .. behind the first end of edge k. -/
def midTo (E : Edg) (k v : Nat) : List Int := atTo E k v ++ (if (eL E k).1 = v then [(k : Int)] else [])
theorem atTo_mid (E : Edg) (k v : Nat) : atTo E (k + 1) v = midTo E k v ++ (if (eL E k).2 = v then [(k : Int)] else []) := rfl
/-- The loop's head. -/
def WebRel (W1 : World) (N : Nat) (E : Edg) (ab : Nat) (iv : Value) (wr : World) : Prop := ∃ k : Nat, k ≤ E.length ∧ iv = .int .i64 k ∧ AtR N (atTo E k) ab W1 wr

section
variable {P : Nat → Prop} {w : World} {N : Nat} {E : Edg} {S D : List Nat} {ev sv dv fv : Value}
set_option maxHeartbeats 4000000 in
set_option maxRecDepth 100000 in
theorem webOf_is (hE : Prs w ev (zE E)) (hea : Av P ev) (hein : EdgIn N E) (hN : N ≤ 4096) (hen : E.length ≤ 16384) (hs : I64s w sv (zN S)) (hS : ∀ x, x ∈ S → x < N) (hsl : S.length ≤ 1000000) (hd : I64s w dv (zN D)) (hD : ∀ x, x ∈ D → x < N) (hdl : D.length ≤ 1000000) (hfv : ∃ q n c, fv = .slice q n c) (hP : ∀ b, w.heap.size ≤ b → P b) :
    Calls Tryz.prog 52 #[.int .i64 N, ev, sv, dv, fv] w (WebPost P w N E S D ev fv) := by
  obtain ⟨eq0, ec0, rfl⟩ := hE.shape
  rw [zE_len] at hE hea
  rw [zE_len]
  have HE := Lib.hid hE
  have HEA := Lib.hid hea
  have HEIN := Lib.hid hein
  have HSV := Lib.hid hs
  have HDV := Lib.hid hd
  have HSN := Lib.hid hS
  have HDN := Lib.hid hD
  have HSL := Lib.hid hsl
  have HDL := Lib.hid hdl
  have HP := Lib.hid hP
  obtain ⟨fq, fl, fc, rfl⟩ := hfv
  have hmk := make_rows N (by omega)
  have DS0 : Hid (GG.BelS w (fun _ => false) () w.drew) := Lib.hid ⟨(Below.refl _ _).drew⟩
  clear hE hea hein hs hd hS hD hsl hdl hP
  go_enter Tryz.func52, Tryz.ntmps52
  go_wp2_with fail
  refine' GG.wp_thenL _ 10 (GG.BelS w) [[], [], [1], [], [], [3, 4], [], [], [3, 4, 5, 6, 7], []] (GG.Fact.lit (Rl := GG.RlB) _ :: GG.Fact.lit (Rl := GG.RlB) _ :: GG.Fact.prop (Rl := GG.RlB) _ _ :: GG.Fact.lit (Rl := GG.RlB) _ :: GG.Fact.lit (Rl := GG.RlB) _ :: GG.Fact.prop (Rl := GG.RlB) _ _ :: GG.Fact.lit (Rl := GG.RlB) _ :: GG.Fact.lit (Rl := GG.RlB) _ :: GG.Fact.prop (Rl := GG.RlB) _ _ :: GG.Fact.lit (Rl := GG.RlB) _ :: []) (by kernel_rfl) rfl (by kernel_rfl) (()) (DS0.out) ?seqwa
  case' seqwa => skip
  (refine' GG.grow_lit (GG.BelS.still) rfl ?wtwa0 ?runwa0 ?putwa0 ?nextwa0; (case wtwa0 => rfl); (case runwa0 => (intro w' hS; (obtain ⟨dn, s, hS⟩ := hS); clear hS; go_simp; first | done | exact rfl)); (case putwa0 => (first | (simp only [Act.put, List.setIfInBounds_toArray, List.set_cons_zero, List.set_cons_succ]; first | done | exact rfl) | rfl)); (case' nextwa0 => skip))
  (refine' GG.grow_lit (GG.BelS.still) rfl ?wtwa1 ?runwa1 ?putwa1 ?nextwa1; (case wtwa1 => rfl); (case runwa1 => (intro w' hS; (obtain ⟨dn, s, hS⟩ := hS); clear hS; go_simp; first | done | exact rfl)); (case putwa1 => (first | (simp only [Act.put, List.setIfInBounds_toArray, List.set_cons_zero, List.set_cons_succ]; first | done | exact rfl) | rfl)); (case' nextwa1 => skip))
  (refine' GG.grow_any_op (p := RowN w N (List.replicate N (Value.slice none 0 0)).toArray 39) (hp := RowN.st) rfl ?wtwa2 ?runwa2 ?putwa2 ?nextwa2; (case wtwa2 => rfl); (case runwa2 => (intro dn s w' hS hd H; (have hb := below_alloc1 (w := w') (.cells (List.replicate N (Value.slice none 0 0)).toArray 39)); refine ⟨_, (), w'.alloc (.cells (List.replicate N (Value.slice none 0 0)).toArray 39), ?_, ⟨w'.heap.size, rfl, Blk.new _ _ _ _ rfl, hS.b.size⟩, ⟨hS.b.trans (hb.mono hS.b.size)⟩, hb, hb.size⟩; (clear hS H; go_simp))); (case putwa2 => (intro v; (simp only [Act.put, List.setIfInBounds_toArray, List.set_cons_zero, List.set_cons_succ]; first | done | exact rfl))); (case' nextwa2 => intro v2))
  (refine' GG.grow_lit (GG.BelS.still) rfl ?wtwa3 ?runwa3 ?putwa3 ?nextwa3; (case wtwa3 => rfl); (case runwa3 => (intro w' hS; (obtain ⟨dn, s, hS⟩ := hS); clear hS; go_simp; first | done | exact rfl)); (case putwa3 => (first | (simp only [Act.put, List.setIfInBounds_toArray, List.set_cons_zero, List.set_cons_succ]; first | done | exact rfl) | rfl)); (case' nextwa3 => skip))
  (refine' GG.grow_lit (GG.BelS.still) rfl ?wtwa4 ?runwa4 ?putwa4 ?nextwa4; (case wtwa4 => rfl); (case runwa4 => (intro w' hS; (obtain ⟨dn, s, hS⟩ := hS); clear hS; go_simp; first | done | exact rfl)); (case putwa4 => (first | (simp only [Act.put, List.setIfInBounds_toArray, List.set_cons_zero, List.set_cons_succ]; first | done | exact rfl) | rfl)); (case' nextwa4 => skip))
  (refine' GG.grow_any_call (p := RowN w N (bolB (markL N S)) 4) (hp := RowN.st) rfl Tryz.func64 (by kernel_rfl) rfl rfl ?wtwa5 ?runwa5 ?putwa5 ?nextwa5; (case wtwa5 => rfl); (case runwa5 => (intro dn s w' hS hd H; exact (marks_is (HSV.out.below hS.b) HSN.out hN HSL.out).mono (fun e w2 h => ⟨_, (), h.1, ⟨_, rfl, h.2.1, hS.b.size⟩, ⟨hS.b.trans (h.2.2.mono hS.b.size)⟩, h.2.2, h.2.2.size⟩))); (case putwa5 => (intro v; (simp only [Act.put, List.setIfInBounds_toArray, List.set_cons_zero, List.set_cons_succ]; first | done | exact rfl))); (case' nextwa5 => intro v5))
  (refine' GG.grow_lit (GG.BelS.still) rfl ?wtwa6 ?runwa6 ?putwa6 ?nextwa6; (case wtwa6 => rfl); (case runwa6 => (intro w' hS; (obtain ⟨dn, s, hS⟩ := hS); clear hS; go_simp; first | done | exact rfl)); (case putwa6 => (first | (simp only [Act.put, List.setIfInBounds_toArray, List.set_cons_zero, List.set_cons_succ]; first | done | exact rfl) | rfl)); (case' nextwa6 => skip))
  (refine' GG.grow_lit (GG.BelS.still) rfl ?wtwa7 ?runwa7 ?putwa7 ?nextwa7; (case wtwa7 => rfl); (case runwa7 => (intro w' hS; (obtain ⟨dn, s, hS⟩ := hS); clear hS; go_simp; first | done | exact rfl)); (case putwa7 => (first | (simp only [Act.put, List.setIfInBounds_toArray, List.set_cons_zero, List.set_cons_succ]; first | done | exact rfl) | rfl)); (case' nextwa7 => skip))
  (refine' GG.grow_any_call (p := RowN w N (bolB (markL N D)) 4) (hp := RowN.st) rfl Tryz.func64 (by kernel_rfl) rfl rfl ?wtwa8 ?runwa8 ?putwa8 ?nextwa8; (case wtwa8 => rfl); (case runwa8 => (intro dn s w' hS hd H; exact (marks_is (HDV.out.below hS.b) HDN.out hN HDL.out).mono (fun e w2 h => ⟨_, (), h.1, ⟨_, rfl, h.2.1, hS.b.size⟩, ⟨hS.b.trans (h.2.2.mono hS.b.size)⟩, h.2.2, h.2.2.size⟩))); (case putwa8 => (intro v; (simp only [Act.put, List.setIfInBounds_toArray, List.set_cons_zero, List.set_cons_succ]; first | done | exact rfl))); (case' nextwa8 => intro v8))
  (refine' GG.grow_lit (GG.BelS.still) rfl ?wtwa9 ?runwa9 ?putwa9 ?nextwa9; (case wtwa9 => rfl); (case runwa9 => (intro w' hS; (obtain ⟨dn, s, hS⟩ := hS); clear hS; go_simp; first | done | exact rfl)); (case putwa9 => (first | (simp only [Act.put, List.setIfInBounds_toArray, List.set_cons_zero, List.set_cons_succ]; first | done | exact rfl) | rfl)); (case' nextwa9 => skip))
  intro dn s w1 hS _ hk
  obtain ⟨ab, rfl, kab, hab⟩ : RowN w N (List.replicate N (Value.slice none 0 0)).toArray 39 v2 s w1 := hk 2 (by decide)
  obtain ⟨sb, rfl, ksb, hsb⟩ : RowN w N (bolB (markL N S)) 4 v5 s w1 := hk 5 (by decide)
  obtain ⟨db, rfl, kdb, hdb⟩ : RowN w N (bolB (markL N D)) 4 v8 s w1 := hk 8 (by decide)
  have HB1 := Lib.hid hS.b
  have KAB := Lib.hid kab
  have KSB := Lib.hid ksb
  have KDB := Lib.hid kdb
  have HLO := Lib.hid (And.intro hab (And.intro hsb hdb))
  have HNE : Hid (sb ≠ ab ∧ db ≠ ab) := Lib.hid ⟨blk_ne ksb kab (by decide), blk_ne kdb kab (by decide)⟩
  clear hS hk kab ksb kdb hab hsb hdb DS0
  refine wpAny_ready (rs := [10]) (by kernel_rfl) (by simp) (AllReady.cons rfl (fun K hK => ?_) AllReady.nil)
  go_simp
  refine hK _ _ ?_
  clear hK K
  refine wpAny_ready (rs := [11]) (by kernel_rfl) (by simp) (AllReady.cons rfl (fun K hK => ?_) AllReady.nil)
  go_simp
  refine hK _ _ ?_
  clear hK K
  refine wpAny_ready (rs := [12]) (by kernel_rfl) (by simp) (AllReady.cons rfl (fun K hK => ?_) AllReady.nil)
  go_simp
  refine hK _ _ ?_
  clear hK K
  refine wpAny_done (by kernel_rfl) ?_ _
  obtain ⟨W2, hW2⟩ := named (w1.alloc (.cells #[.slice eq0 E.length ec0, .slice (some ⟨ab, 0, none⟩) N N, .slice (some ⟨sb, 0, none⟩) N N, .slice (some ⟨db, 0, none⟩) N N, .slice fq fl fc] 125))
  rw [← hW2]
  have hb2 : Below w1.heap.size w1 W2 := by rw [hW2]; exact below_alloc1 _
  have kp : Blk W2 w1.heap.size #[.slice eq0 E.length ec0, .slice (some ⟨ab, 0, none⟩) N N, .slice (some ⟨sb, 0, none⟩) N N, .slice (some ⟨db, 0, none⟩) N N, .slice fq fl fc] 125 := by rw [hW2]; exact Blk.new _ _ _ _ rfl
  obtain ⟨pb, hpb⟩ : ∃ pb, w1.heap.size = pb := ⟨_, rfl⟩
  rw [hpb] at kp
  rw [hpb]
  have HPB : Hid (w.heap.size ≤ pb ∧ ab < W2.heap.size ∧ pb < W2.heap.size ∧ w.heap.size ≤ W2.heap.size ∧ pb ≠ ab) := Lib.hid ⟨by rw [← hpb]; exact HB1.out.size, by have := KAB.out.lt; have := hb2.size; omega, kp.lt, by have := HB1.out.size; have := hb2.size; omega, by have := KAB.out.lt; omega⟩
  have HB2 := Lib.hid (bOn6 HB1.out hb2)
  have KP := Lib.hid kp
  have AT0 : Hid (AtR N (atTo E 0) ab W2 W2) := Lib.hid ⟨⟨List.replicate N (Value.slice none 0 0), KAB.out.keep hb2, by simp, fun i u hu => by
    obtain ⟨-, rfl⟩ := List.mem_replicate.1 (List.mem_of_getElem? hu)
    exact World.ownsRow_nil _ _ _ _, fun i j u u' g hij hi hj hg => by
    obtain ⟨-, rfl⟩ := List.mem_replicate.1 (List.mem_of_getElem? hi)
    simp [Value.ownBlock] at hg⟩, Keep.refl _ _, HPB.out.2.1⟩
  have KSB2 := Lib.hid (KSB.out.keep hb2)
  have KDB2 := Lib.hid (KDB.out.keep hb2)
  clear hW2 hb2 kp hpb HB1 KAB KSB KDB hmk
  go_wp2_with fail
  go_loopw [12, 13, 28] (fun _ _ iv wr => WebRel W2 N E ab iv wr) (fun _ _ iv _ => E.length - (intOf iv).toNat)
  case atStart => exact ⟨0, Nat.zero_le _, rfl, AT0.out⟩
  case round =>
    obtain ⟨k, hk, rfl, hat⟩ := hrel
    have hbw : Below w.heap.size w wr := HB2.out.trans (hat.kp.below (fun b hb => by have := HLO.out.1; omega) HPB.out.2.2.2.1)
    by_cases hlt : k < E.length
    · have hki : (k : Int) < (E.length : Int) := by omega
      obtain ⟨⟨a, c⟩, hac⟩ : ∃ e, eL E k = e := ⟨_, rfl⟩
      have hin := HEIN.out k hlt
      rw [hac] at hin
      obtain ⟨hin1, hin2⟩ : a < N ∧ c < N := hin
      obtain ⟨eb, eo, rfl, e0, e1⟩ := (HE.out.below hbw).at (k := k) (by rw [zE_len]; exact hlt)
      rw [zE_at, hac] at e0 e1
      have hel := World.block_lt_of_cell? wr _ e0
      simp only at e0 e1
      obtain ⟨W3, hW3⟩ := named (wr.alloc (.cells #[.int .i64 a, .int .i64 c] 44))
      have hb3 : Below wr.heap.size wr W3 := by rw [hW3]; exact below_alloc1 _
      obtain ⟨gg, hgg⟩ : ∃ gg, wr.heap.size = gg := ⟨_, rfl⟩
      have kg : Blk W3 gg #[.int .i64 a, .int .i64 c] 44 := by rw [hW3]; exact Blk.new _ _ _ _ hgg
      have AT3 := Lib.hid (hat.old hb3)
      have KG := Lib.hid kg
      have HAC := Lib.hid hac
      have HGA : Hid (gg ≠ ab) := Lib.hid (by have := hat.lt; have := hat.kp.size; omega)
      have hai : (a : Int) < (N : Int) := by omega
      have hci : (c : Int) < (N : Int) := by omega
      have hgl := kg.lt
      have HIN1 := Lib.hid hin1
      have HIN2 := Lib.hid hin2
      have HLEN : Hid (∀ v, (atTo E k v).length ≤ 40000) := Lib.hid fun v => by have := atTo_len E v k; omega
      have HBW := Lib.hid hbw
      have e3 := hW3.symm
      clear hat hb3 kg hac AT0 hW3 hbw
      go_wp2_with fail
      clear e3 e0 e1 hel
      obtain ⟨qx, cx, hcx, -⟩ := AT3.out.cell HIN1.out (by have := HLEN.out a; omega)
      obtain ⟨LL, eLL⟩ : ∃ LL, (atTo E k a).length = LL := ⟨_, rfl⟩
      have HC1 : Hid (midTo E k a = atTo E k a ++ [(k : Int)]) := Lib.hid (by unfold midTo; rw [HAC.out, if_pos rfl])
      have HC2 : Hid (∀ i, i ≠ a → midTo E k i = atTo E k i) := Lib.hid fun i hi => by unfold midTo; rw [HAC.out, if_neg (fun e => hi e.symm), List.append_nil]
      rw [eLL] at hcx
      have SA0 : Hid (GG.S1 16 N (atTo E k) ab a (.slice qx LL cx) gg #[.int .i64 a, .int .i64 c] W2 (fun _ => false) false W3.drew) := Lib.hid ⟨rfl, fun _ => AT3.out.old (Below.refl _ _).drew, AT3.out.kp.on ((Below.refl _ _).drew.mono AT3.out.kp.size), hcx, KG.out.drew⟩
      clear hcx eLL
      refine' GG.wp_thenL _ 18 (GG.S1 16 N (atTo E k) ab a (.slice qx LL cx) gg #[.int .i64 a, .int .i64 c] W2) [[], [0], [0, 1], [0, 1, 2], [], [4], [], [6], [6, 7], [6, 7, 8], [], [10], [6, 7, 8, 9, 10, 11], [6, 7, 8, 9, 10, 11, 12], [], [14], [6, 7, 8, 9, 10, 11, 12, 13, 14, 15], [0, 1, 2, 3, 4, 5, 6, 7, 8, 9, 10, 11, 12, 13, 14, 15, 16]] (GG.Fact.lit (Rl := GG.RlA) _ :: GG.Fact.lit (Rl := GG.RlA) _ :: GG.Fact.lit (Rl := GG.RlA) _ :: GG.Fact.lit (Rl := GG.RlA) _ :: GG.Fact.lit (Rl := GG.RlA) _ :: GG.Fact.lit (Rl := GG.RlA) _ :: GG.Fact.lit (Rl := GG.RlA) _ :: GG.Fact.lit (Rl := GG.RlA) _ :: GG.Fact.lit (Rl := GG.RlA) _ :: GG.Fact.lit (Rl := GG.RlA) _ :: GG.Fact.lit (Rl := GG.RlA) _ :: GG.Fact.lit (Rl := GG.RlA) _ :: GG.Fact.lit (Rl := GG.RlA) _ :: GG.Fact.lit (Rl := GG.RlA) _ :: GG.Fact.lit (Rl := GG.RlA) _ :: GG.Fact.prop (Rl := GG.RlA) _ _ :: GG.Fact.prop (Rl := GG.RlA) _ _ :: GG.Fact.lit (Rl := GG.RlA) _ :: []) (by kernel_rfl) rfl (by kernel_rfl) (false) (SA0.out) ?seqwb
      case' seqwb => skip
      (refine' GG.grow_lit (GG.S1.still (by decide)) rfl ?wtwb0 ?runwb0 ?putwb0 ?nextwb0; (case wtwb0 => rfl); (case runwb0 => (intro w' hS; (obtain ⟨dn, s, hS⟩ := hS); (obtain ⟨c0, c1, c2, c3, c4, -⟩ := (hS.k.blk KP.out HPB.out.2.2.2.2).o5); (obtain ⟨d0, d1, -⟩ := hS.g.o2); (have y0 := hS.c); (have hl0 := (hS.k.blk KP.out HPB.out.2.2.2.2).lt); (have hl1 := hS.g.lt); (have hl2 := World.block_lt_of_cell? w' _ y0); clear hS; go_simp; first | done | exact rfl)); (case putwb0 => (first | (simp only [Act.put, List.setIfInBounds_toArray, List.set_cons_zero, List.set_cons_succ]; first | done | exact rfl) | rfl)); (case' nextwb0 => skip))
      (refine' GG.grow_lit (GG.S1.still (by decide)) rfl ?wtwb1 ?runwb1 ?putwb1 ?nextwb1; (case wtwb1 => rfl); (case runwb1 => (intro w' hS; (obtain ⟨dn, s, hS⟩ := hS); (obtain ⟨c0, c1, c2, c3, c4, -⟩ := (hS.k.blk KP.out HPB.out.2.2.2.2).o5); (obtain ⟨d0, d1, -⟩ := hS.g.o2); (have y0 := hS.c); (have hl0 := (hS.k.blk KP.out HPB.out.2.2.2.2).lt); (have hl1 := hS.g.lt); (have hl2 := World.block_lt_of_cell? w' _ y0); clear hS; go_simp; first | done | exact rfl)); (case putwb1 => (first | (simp only [Act.put, List.setIfInBounds_toArray, List.set_cons_zero, List.set_cons_succ]; first | done | exact rfl) | rfl)); (case' nextwb1 => skip))
      (refine' GG.grow_lit (GG.S1.still (by decide)) rfl ?wtwb2 ?runwb2 ?putwb2 ?nextwb2; (case wtwb2 => rfl); (case runwb2 => (intro w' hS; (obtain ⟨dn, s, hS⟩ := hS); (obtain ⟨c0, c1, c2, c3, c4, -⟩ := (hS.k.blk KP.out HPB.out.2.2.2.2).o5); (obtain ⟨d0, d1, -⟩ := hS.g.o2); (have y0 := hS.c); (have hl0 := (hS.k.blk KP.out HPB.out.2.2.2.2).lt); (have hl1 := hS.g.lt); (have hl2 := World.block_lt_of_cell? w' _ y0); clear hS; go_simp; first | done | exact rfl)); (case putwb2 => (first | (simp only [Act.put, List.setIfInBounds_toArray, List.set_cons_zero, List.set_cons_succ]; first | done | exact rfl) | rfl)); (case' nextwb2 => skip))
      (refine' GG.grow_lit (GG.S1.still (by decide)) rfl ?wtwb3 ?runwb3 ?putwb3 ?nextwb3; (case wtwb3 => rfl); (case runwb3 => (intro w' hS; (obtain ⟨dn, s, hS⟩ := hS); (obtain ⟨c0, c1, c2, c3, c4, -⟩ := (hS.k.blk KP.out HPB.out.2.2.2.2).o5); (obtain ⟨d0, d1, -⟩ := hS.g.o2); (have y0 := hS.c); (have hl0 := (hS.k.blk KP.out HPB.out.2.2.2.2).lt); (have hl1 := hS.g.lt); (have hl2 := World.block_lt_of_cell? w' _ y0); clear hS; go_simp; first | done | exact rfl)); (case putwb3 => (first | (simp only [Act.put, List.setIfInBounds_toArray, List.set_cons_zero, List.set_cons_succ]; first | done | exact rfl) | rfl)); (case' nextwb3 => skip))
      (refine' GG.grow_lit (GG.S1.still (by decide)) rfl ?wtwb4 ?runwb4 ?putwb4 ?nextwb4; (case wtwb4 => rfl); (case runwb4 => (intro w' hS; (obtain ⟨dn, s, hS⟩ := hS); (obtain ⟨c0, c1, c2, c3, c4, -⟩ := (hS.k.blk KP.out HPB.out.2.2.2.2).o5); (obtain ⟨d0, d1, -⟩ := hS.g.o2); (have y0 := hS.c); (have hl0 := (hS.k.blk KP.out HPB.out.2.2.2.2).lt); (have hl1 := hS.g.lt); (have hl2 := World.block_lt_of_cell? w' _ y0); clear hS; go_simp; first | done | exact rfl)); (case putwb4 => (first | (simp only [Act.put, List.setIfInBounds_toArray, List.set_cons_zero, List.set_cons_succ]; first | done | exact rfl) | rfl)); (case' nextwb4 => skip))
      (refine' GG.grow_lit (GG.S1.still (by decide)) rfl ?wtwb5 ?runwb5 ?putwb5 ?nextwb5; (case wtwb5 => rfl); (case runwb5 => (intro w' hS; (obtain ⟨dn, s, hS⟩ := hS); (obtain ⟨c0, c1, c2, c3, c4, -⟩ := (hS.k.blk KP.out HPB.out.2.2.2.2).o5); (obtain ⟨d0, d1, -⟩ := hS.g.o2); (have y0 := hS.c); (have hl0 := (hS.k.blk KP.out HPB.out.2.2.2.2).lt); (have hl1 := hS.g.lt); (have hl2 := World.block_lt_of_cell? w' _ y0); clear hS; go_simp; first | done | exact rfl)); (case putwb5 => (first | (simp only [Act.put, List.setIfInBounds_toArray, List.set_cons_zero, List.set_cons_succ]; first | done | exact rfl) | rfl)); (case' nextwb5 => skip))
      (refine' GG.grow_lit (GG.S1.still (by decide)) rfl ?wtwb6 ?runwb6 ?putwb6 ?nextwb6; (case wtwb6 => rfl); (case runwb6 => (intro w' hS; (obtain ⟨dn, s, hS⟩ := hS); (obtain ⟨c0, c1, c2, c3, c4, -⟩ := (hS.k.blk KP.out HPB.out.2.2.2.2).o5); (obtain ⟨d0, d1, -⟩ := hS.g.o2); (have y0 := hS.c); (have hl0 := (hS.k.blk KP.out HPB.out.2.2.2.2).lt); (have hl1 := hS.g.lt); (have hl2 := World.block_lt_of_cell? w' _ y0); clear hS; go_simp; first | done | exact rfl)); (case putwb6 => (first | (simp only [Act.put, List.setIfInBounds_toArray, List.set_cons_zero, List.set_cons_succ]; first | done | exact rfl) | rfl)); (case' nextwb6 => skip))
      (refine' GG.grow_lit (GG.S1.still (by decide)) rfl ?wtwb7 ?runwb7 ?putwb7 ?nextwb7; (case wtwb7 => rfl); (case runwb7 => (intro w' hS; (obtain ⟨dn, s, hS⟩ := hS); (obtain ⟨c0, c1, c2, c3, c4, -⟩ := (hS.k.blk KP.out HPB.out.2.2.2.2).o5); (obtain ⟨d0, d1, -⟩ := hS.g.o2); (have y0 := hS.c); (have hl0 := (hS.k.blk KP.out HPB.out.2.2.2.2).lt); (have hl1 := hS.g.lt); (have hl2 := World.block_lt_of_cell? w' _ y0); clear hS; go_simp; first | done | exact rfl)); (case putwb7 => (first | (simp only [Act.put, List.setIfInBounds_toArray, List.set_cons_zero, List.set_cons_succ]; first | done | exact rfl) | rfl)); (case' nextwb7 => skip))
      (refine' GG.grow_lit (GG.S1.still (by decide)) rfl ?wtwb8 ?runwb8 ?putwb8 ?nextwb8; (case wtwb8 => rfl); (case runwb8 => (intro w' hS; (obtain ⟨dn, s, hS⟩ := hS); (obtain ⟨c0, c1, c2, c3, c4, -⟩ := (hS.k.blk KP.out HPB.out.2.2.2.2).o5); (obtain ⟨d0, d1, -⟩ := hS.g.o2); (have y0 := hS.c); (have hl0 := (hS.k.blk KP.out HPB.out.2.2.2.2).lt); (have hl1 := hS.g.lt); (have hl2 := World.block_lt_of_cell? w' _ y0); clear hS; go_simp; first | done | exact rfl)); (case putwb8 => (first | (simp only [Act.put, List.setIfInBounds_toArray, List.set_cons_zero, List.set_cons_succ]; first | done | exact rfl) | rfl)); (case' nextwb8 => skip))
      (refine' GG.grow_lit (GG.S1.still (by decide)) rfl ?wtwb9 ?runwb9 ?putwb9 ?nextwb9; (case wtwb9 => rfl); (case runwb9 => (intro w' hS; (obtain ⟨dn, s, hS⟩ := hS); (obtain ⟨c0, c1, c2, c3, c4, -⟩ := (hS.k.blk KP.out HPB.out.2.2.2.2).o5); (obtain ⟨d0, d1, -⟩ := hS.g.o2); (have y0 := hS.c); (have hl0 := (hS.k.blk KP.out HPB.out.2.2.2.2).lt); (have hl1 := hS.g.lt); (have hl2 := World.block_lt_of_cell? w' _ y0); clear hS; go_simp; first | done | exact rfl)); (case putwb9 => (first | (simp only [Act.put, List.setIfInBounds_toArray, List.set_cons_zero, List.set_cons_succ]; first | done | exact rfl) | rfl)); (case' nextwb9 => skip))
      (refine' GG.grow_lit (GG.S1.still (by decide)) rfl ?wtwb10 ?runwb10 ?putwb10 ?nextwb10; (case wtwb10 => rfl); (case runwb10 => (intro w' hS; (obtain ⟨dn, s, hS⟩ := hS); (obtain ⟨c0, c1, c2, c3, c4, -⟩ := (hS.k.blk KP.out HPB.out.2.2.2.2).o5); (obtain ⟨d0, d1, -⟩ := hS.g.o2); (have y0 := hS.c); (have hl0 := (hS.k.blk KP.out HPB.out.2.2.2.2).lt); (have hl1 := hS.g.lt); (have hl2 := World.block_lt_of_cell? w' _ y0); clear hS; go_simp; first | done | exact rfl)); (case putwb10 => (first | (simp only [Act.put, List.setIfInBounds_toArray, List.set_cons_zero, List.set_cons_succ]; first | done | exact rfl) | rfl)); (case' nextwb10 => skip))
      (refine' GG.grow_lit (GG.S1.still (by decide)) rfl ?wtwb11 ?runwb11 ?putwb11 ?nextwb11; (case wtwb11 => rfl); (case runwb11 => (intro w' hS; (obtain ⟨dn, s, hS⟩ := hS); (obtain ⟨c0, c1, c2, c3, c4, -⟩ := (hS.k.blk KP.out HPB.out.2.2.2.2).o5); (obtain ⟨d0, d1, -⟩ := hS.g.o2); (have y0 := hS.c); (have hl0 := (hS.k.blk KP.out HPB.out.2.2.2.2).lt); (have hl1 := hS.g.lt); (have hl2 := World.block_lt_of_cell? w' _ y0); clear hS; go_simp; first | done | exact rfl)); (case putwb11 => (first | (simp only [Act.put, List.setIfInBounds_toArray, List.set_cons_zero, List.set_cons_succ]; first | done | exact rfl) | rfl)); (case' nextwb11 => skip))
      (refine' GG.grow_lit (GG.S1.still (by decide)) rfl ?wtwb12 ?runwb12 ?putwb12 ?nextwb12; (case wtwb12 => rfl); (case runwb12 => (intro w' hS; (obtain ⟨dn, s, hS⟩ := hS); (obtain ⟨c0, c1, c2, c3, c4, -⟩ := (hS.k.blk KP.out HPB.out.2.2.2.2).o5); (obtain ⟨d0, d1, -⟩ := hS.g.o2); (have y0 := hS.c); (have hl0 := (hS.k.blk KP.out HPB.out.2.2.2.2).lt); (have hl1 := hS.g.lt); (have hl2 := World.block_lt_of_cell? w' _ y0); clear hS; go_simp; first | done | exact rfl)); (case putwb12 => (first | (simp only [Act.put, List.setIfInBounds_toArray, List.set_cons_zero, List.set_cons_succ]; first | done | exact rfl) | rfl)); (case' nextwb12 => skip))
      (refine' GG.grow_lit (GG.S1.still (by decide)) rfl ?wtwb13 ?runwb13 ?putwb13 ?nextwb13; (case wtwb13 => rfl); (case runwb13 => (intro w' hS; (obtain ⟨dn, s, hS⟩ := hS); (obtain ⟨c0, c1, c2, c3, c4, -⟩ := (hS.k.blk KP.out HPB.out.2.2.2.2).o5); (obtain ⟨d0, d1, -⟩ := hS.g.o2); (have y0 := hS.c); (have hl0 := (hS.k.blk KP.out HPB.out.2.2.2.2).lt); (have hl1 := hS.g.lt); (have hl2 := World.block_lt_of_cell? w' _ y0); clear hS; go_simp; first | done | exact rfl)); (case putwb13 => (first | (simp only [Act.put, List.setIfInBounds_toArray, List.set_cons_zero, List.set_cons_succ]; first | done | exact rfl) | rfl)); (case' nextwb13 => skip))
      (refine' GG.grow_lit (GG.S1.still (by decide)) rfl ?wtwb14 ?runwb14 ?putwb14 ?nextwb14; (case wtwb14 => rfl); (case runwb14 => (intro w' hS; (obtain ⟨dn, s, hS⟩ := hS); (obtain ⟨c0, c1, c2, c3, c4, -⟩ := (hS.k.blk KP.out HPB.out.2.2.2.2).o5); (obtain ⟨d0, d1, -⟩ := hS.g.o2); (have y0 := hS.c); (have hl0 := (hS.k.blk KP.out HPB.out.2.2.2.2).lt); (have hl1 := hS.g.lt); (have hl2 := World.block_lt_of_cell? w' _ y0); clear hS; go_simp; first | done | exact rfl)); (case putwb14 => (first | (simp only [Act.put, List.setIfInBounds_toArray, List.set_cons_zero, List.set_cons_succ]; first | done | exact rfl) | rfl)); (case' nextwb14 => skip))
      (refine' GG.grow_any_op (p := GG.LitI k) (hp := GG.LitI.st k) rfl ?wtwb15 ?runwb15 ?putwb15 ?nextwb15; (case wtwb15 => rfl); (case runwb15 => (intro dn s w' hS hd H; (refine ⟨.slice (some ⟨w'.heap.size, 0, none⟩) 1 1, s, w'.alloc (.cells #[.int .i64 k] 3), ?_, fun _ => ⟨w'.heap.size, rfl, Blk.new _ _ _ _ rfl⟩, (hS.step (by decide)).old (below_alloc1 _), ⟨id, fun _ => below_alloc1 _⟩, (below_alloc1 _).size⟩; clear hS hd H; go_simp))); (case putwb15 => (intro v; (simp only [Act.put, List.setIfInBounds_toArray, List.set_cons_zero, List.set_cons_succ]; first | done | exact rfl))); (case' nextwb15 => intro v15))
      (refine' GG.grow_any_op (p := GG.App1 N (midTo E k) ab a W2) (hp := GG.App1.st N (midTo E k) ab a W2) rfl ?wtwb16 ?runwb16 ?putwb16 ?nextwb16; (case wtwb16 => rfl); (case runwb16 => (intro dn s w' hS hd H; (obtain rfl : s = false := hS.here.symm.trans hd); (obtain ⟨g, e17, kg⟩ := (show GG.LitI k v15 false w' from H 15 (by decide)) rfl); (obtain ⟨q', n', c', w7, hr, hP, hz, hc7, hg7⟩ := (hS.r rfl).app (L' := (midTo E k)) (v := a) (x := (k : Int)) hS.c kg HIN1.out (by have := HLEN.out a; omega) HC1.out HC2.out); subst e17; exact ⟨_, true, w7, GG.exec_append (.tmp 46) (.tmp 48) 39 rfl rfl rfl hr, ⟨rfl, ⟨_, _, _, rfl⟩, hP⟩, ⟨rfl, (fun h => by cases h), hP.kp, hc7, hg7 _ _ _ hS.g (by decide)⟩, ⟨fun _ => rfl, fun h => by cases h⟩, hz⟩)); (case putwb16 => (intro v; (simp only [Act.put, List.setIfInBounds_toArray, List.set_cons_zero, List.set_cons_succ]; first | done | exact rfl))); (case' nextwb16 => intro v16))
      (refine' GG.grow_lit (GG.S1.still (by decide)) rfl ?wtwb17 ?runwb17 ?putwb17 ?nextwb17; (case wtwb17 => rfl); (case runwb17 => (intro w' hS; (obtain ⟨dn, s, hS⟩ := hS); (obtain ⟨c0, c1, c2, c3, c4, -⟩ := (hS.k.blk KP.out HPB.out.2.2.2.2).o5); (obtain ⟨d0, d1, -⟩ := hS.g.o2); (have y0 := hS.c); (have hl0 := (hS.k.blk KP.out HPB.out.2.2.2.2).lt); (have hl1 := hS.g.lt); (have hl2 := World.block_lt_of_cell? w' _ y0); clear hS; go_simp; first | done | exact rfl)); (case putwb17 => (first | (simp only [Act.put, List.setIfInBounds_toArray, List.set_cons_zero, List.set_cons_succ]; first | done | exact rfl) | rfl)); (case' nextwb17 => skip))
      intro dn s w7 hS7 _ hk7
      obtain ⟨-, ⟨qz, nz, cz, rfl⟩, hP⟩ : GG.App1 N (midTo E k) ab a W2 v16 s w7 := hk7 16 (by decide)
      obtain ⟨⟨uo, hc7⟩, hf7, hl7, hnew⟩ := hP.put
      have HNEW := Lib.hid hnew
      have KG7 := Lib.hid (hS7.g.other (k := ab) a (.slice qz nz cz) HGA.out)
      clear hk7 hS7 hP hnew SA0
      refine wpAny_ready (rs := [18]) (by kernel_rfl) (by simp) (AllReady.cons rfl (fun K hK => ?_) AllReady.nil)
      go_simp
      refine hK _ _ ?_
      clear hK K
      refine wpAny_done (by kernel_rfl) ?_ _
      clear hc7 hf7 hl7
      obtain ⟨W5, hW5⟩ := named (w7.setCell ⟨ab, a, none⟩ (.slice qz nz cz))
      rw [← hW5] at HNEW KG7
      rw [← hW5]
      clear hW5
      have HLM : Hid (∀ v, (midTo E k v).length ≤ 50000) := Lib.hid fun v => by have := HLEN.out v; unfold midTo; rw [List.length_append]; split <;> simp <;> omega
      obtain ⟨qx, cx, hcx, -⟩ := HNEW.out.cell HIN2.out (by have := HLM.out c; omega)
      obtain ⟨LL, eLL⟩ : ∃ LL, (midTo E k c).length = LL := ⟨_, rfl⟩
      have HC3 : Hid (atTo E (k + 1) c = midTo E k c ++ [(k : Int)]) := Lib.hid (by rw [atTo_mid, HAC.out, if_pos rfl])
      have HC4 : Hid (∀ i, i ≠ c → atTo E (k + 1) i = midTo E k i) := Lib.hid fun i hi => by rw [atTo_mid, HAC.out, if_neg (fun e => hi e.symm), List.append_nil]
      rw [eLL] at hcx
      have SA0 : Hid (GG.S1 16 N (midTo E k) ab c (.slice qx LL cx) gg #[.int .i64 a, .int .i64 c] W2 (fun _ => false) false W5.drew) := Lib.hid ⟨rfl, fun _ => HNEW.out.old (Below.refl _ _).drew, HNEW.out.kp.on ((Below.refl _ _).drew.mono HNEW.out.kp.size), hcx, KG7.out.drew⟩
      clear hcx eLL AT3 KG
      go_wp2_with fail
      refine' GG.wp_thenL _ 18 (GG.S1 16 N (midTo E k) ab c (.slice qx LL cx) gg #[.int .i64 a, .int .i64 c] W2) [[], [0], [0, 1], [0, 1, 2], [], [4], [], [6], [6, 7], [6, 7, 8], [], [10], [6, 7, 8, 9, 10, 11], [6, 7, 8, 9, 10, 11, 12], [], [14], [6, 7, 8, 9, 10, 11, 12, 13, 14, 15], [0, 1, 2, 3, 4, 5, 6, 7, 8, 9, 10, 11, 12, 13, 14, 15, 16]] (GG.Fact.lit (Rl := GG.RlA) _ :: GG.Fact.lit (Rl := GG.RlA) _ :: GG.Fact.lit (Rl := GG.RlA) _ :: GG.Fact.lit (Rl := GG.RlA) _ :: GG.Fact.lit (Rl := GG.RlA) _ :: GG.Fact.lit (Rl := GG.RlA) _ :: GG.Fact.lit (Rl := GG.RlA) _ :: GG.Fact.lit (Rl := GG.RlA) _ :: GG.Fact.lit (Rl := GG.RlA) _ :: GG.Fact.lit (Rl := GG.RlA) _ :: GG.Fact.lit (Rl := GG.RlA) _ :: GG.Fact.lit (Rl := GG.RlA) _ :: GG.Fact.lit (Rl := GG.RlA) _ :: GG.Fact.lit (Rl := GG.RlA) _ :: GG.Fact.lit (Rl := GG.RlA) _ :: GG.Fact.prop (Rl := GG.RlA) _ _ :: GG.Fact.prop (Rl := GG.RlA) _ _ :: GG.Fact.lit (Rl := GG.RlA) _ :: []) (by kernel_rfl) rfl (by kernel_rfl) (false) (SA0.out) ?seqwc
      case' seqwc => skip
      (refine' GG.grow_lit (GG.S1.still (by decide)) rfl ?wtwc0 ?runwc0 ?putwc0 ?nextwc0; (case wtwc0 => rfl); (case runwc0 => (intro w' hS; (obtain ⟨dn, s, hS⟩ := hS); (obtain ⟨c0, c1, c2, c3, c4, -⟩ := (hS.k.blk KP.out HPB.out.2.2.2.2).o5); (obtain ⟨d0, d1, -⟩ := hS.g.o2); (have y0 := hS.c); (have hl0 := (hS.k.blk KP.out HPB.out.2.2.2.2).lt); (have hl1 := hS.g.lt); (have hl2 := World.block_lt_of_cell? w' _ y0); clear hS; go_simp; first | done | exact rfl)); (case putwc0 => (first | (simp only [Act.put, List.setIfInBounds_toArray, List.set_cons_zero, List.set_cons_succ]; first | done | exact rfl) | rfl)); (case' nextwc0 => skip))
      (refine' GG.grow_lit (GG.S1.still (by decide)) rfl ?wtwc1 ?runwc1 ?putwc1 ?nextwc1; (case wtwc1 => rfl); (case runwc1 => (intro w' hS; (obtain ⟨dn, s, hS⟩ := hS); (obtain ⟨c0, c1, c2, c3, c4, -⟩ := (hS.k.blk KP.out HPB.out.2.2.2.2).o5); (obtain ⟨d0, d1, -⟩ := hS.g.o2); (have y0 := hS.c); (have hl0 := (hS.k.blk KP.out HPB.out.2.2.2.2).lt); (have hl1 := hS.g.lt); (have hl2 := World.block_lt_of_cell? w' _ y0); clear hS; go_simp; first | done | exact rfl)); (case putwc1 => (first | (simp only [Act.put, List.setIfInBounds_toArray, List.set_cons_zero, List.set_cons_succ]; first | done | exact rfl) | rfl)); (case' nextwc1 => skip))
      (refine' GG.grow_lit (GG.S1.still (by decide)) rfl ?wtwc2 ?runwc2 ?putwc2 ?nextwc2; (case wtwc2 => rfl); (case runwc2 => (intro w' hS; (obtain ⟨dn, s, hS⟩ := hS); (obtain ⟨c0, c1, c2, c3, c4, -⟩ := (hS.k.blk KP.out HPB.out.2.2.2.2).o5); (obtain ⟨d0, d1, -⟩ := hS.g.o2); (have y0 := hS.c); (have hl0 := (hS.k.blk KP.out HPB.out.2.2.2.2).lt); (have hl1 := hS.g.lt); (have hl2 := World.block_lt_of_cell? w' _ y0); clear hS; go_simp; first | done | exact rfl)); (case putwc2 => (first | (simp only [Act.put, List.setIfInBounds_toArray, List.set_cons_zero, List.set_cons_succ]; first | done | exact rfl) | rfl)); (case' nextwc2 => skip))
      (refine' GG.grow_lit (GG.S1.still (by decide)) rfl ?wtwc3 ?runwc3 ?putwc3 ?nextwc3; (case wtwc3 => rfl); (case runwc3 => (intro w' hS; (obtain ⟨dn, s, hS⟩ := hS); (obtain ⟨c0, c1, c2, c3, c4, -⟩ := (hS.k.blk KP.out HPB.out.2.2.2.2).o5); (obtain ⟨d0, d1, -⟩ := hS.g.o2); (have y0 := hS.c); (have hl0 := (hS.k.blk KP.out HPB.out.2.2.2.2).lt); (have hl1 := hS.g.lt); (have hl2 := World.block_lt_of_cell? w' _ y0); clear hS; go_simp; first | done | exact rfl)); (case putwc3 => (first | (simp only [Act.put, List.setIfInBounds_toArray, List.set_cons_zero, List.set_cons_succ]; first | done | exact rfl) | rfl)); (case' nextwc3 => skip))
      (refine' GG.grow_lit (GG.S1.still (by decide)) rfl ?wtwc4 ?runwc4 ?putwc4 ?nextwc4; (case wtwc4 => rfl); (case runwc4 => (intro w' hS; (obtain ⟨dn, s, hS⟩ := hS); (obtain ⟨c0, c1, c2, c3, c4, -⟩ := (hS.k.blk KP.out HPB.out.2.2.2.2).o5); (obtain ⟨d0, d1, -⟩ := hS.g.o2); (have y0 := hS.c); (have hl0 := (hS.k.blk KP.out HPB.out.2.2.2.2).lt); (have hl1 := hS.g.lt); (have hl2 := World.block_lt_of_cell? w' _ y0); clear hS; go_simp; first | done | exact rfl)); (case putwc4 => (first | (simp only [Act.put, List.setIfInBounds_toArray, List.set_cons_zero, List.set_cons_succ]; first | done | exact rfl) | rfl)); (case' nextwc4 => skip))
      (refine' GG.grow_lit (GG.S1.still (by decide)) rfl ?wtwc5 ?runwc5 ?putwc5 ?nextwc5; (case wtwc5 => rfl); (case runwc5 => (intro w' hS; (obtain ⟨dn, s, hS⟩ := hS); (obtain ⟨c0, c1, c2, c3, c4, -⟩ := (hS.k.blk KP.out HPB.out.2.2.2.2).o5); (obtain ⟨d0, d1, -⟩ := hS.g.o2); (have y0 := hS.c); (have hl0 := (hS.k.blk KP.out HPB.out.2.2.2.2).lt); (have hl1 := hS.g.lt); (have hl2 := World.block_lt_of_cell? w' _ y0); clear hS; go_simp; first | done | exact rfl)); (case putwc5 => (first | (simp only [Act.put, List.setIfInBounds_toArray, List.set_cons_zero, List.set_cons_succ]; first | done | exact rfl) | rfl)); (case' nextwc5 => skip))
      (refine' GG.grow_lit (GG.S1.still (by decide)) rfl ?wtwc6 ?runwc6 ?putwc6 ?nextwc6; (case wtwc6 => rfl); (case runwc6 => (intro w' hS; (obtain ⟨dn, s, hS⟩ := hS); (obtain ⟨c0, c1, c2, c3, c4, -⟩ := (hS.k.blk KP.out HPB.out.2.2.2.2).o5); (obtain ⟨d0, d1, -⟩ := hS.g.o2); (have y0 := hS.c); (have hl0 := (hS.k.blk KP.out HPB.out.2.2.2.2).lt); (have hl1 := hS.g.lt); (have hl2 := World.block_lt_of_cell? w' _ y0); clear hS; go_simp; first | done | exact rfl)); (case putwc6 => (first | (simp only [Act.put, List.setIfInBounds_toArray, List.set_cons_zero, List.set_cons_succ]; first | done | exact rfl) | rfl)); (case' nextwc6 => skip))
      (refine' GG.grow_lit (GG.S1.still (by decide)) rfl ?wtwc7 ?runwc7 ?putwc7 ?nextwc7; (case wtwc7 => rfl); (case runwc7 => (intro w' hS; (obtain ⟨dn, s, hS⟩ := hS); (obtain ⟨c0, c1, c2, c3, c4, -⟩ := (hS.k.blk KP.out HPB.out.2.2.2.2).o5); (obtain ⟨d0, d1, -⟩ := hS.g.o2); (have y0 := hS.c); (have hl0 := (hS.k.blk KP.out HPB.out.2.2.2.2).lt); (have hl1 := hS.g.lt); (have hl2 := World.block_lt_of_cell? w' _ y0); clear hS; go_simp; first | done | exact rfl)); (case putwc7 => (first | (simp only [Act.put, List.setIfInBounds_toArray, List.set_cons_zero, List.set_cons_succ]; first | done | exact rfl) | rfl)); (case' nextwc7 => skip))
      (refine' GG.grow_lit (GG.S1.still (by decide)) rfl ?wtwc8 ?runwc8 ?putwc8 ?nextwc8; (case wtwc8 => rfl); (case runwc8 => (intro w' hS; (obtain ⟨dn, s, hS⟩ := hS); (obtain ⟨c0, c1, c2, c3, c4, -⟩ := (hS.k.blk KP.out HPB.out.2.2.2.2).o5); (obtain ⟨d0, d1, -⟩ := hS.g.o2); (have y0 := hS.c); (have hl0 := (hS.k.blk KP.out HPB.out.2.2.2.2).lt); (have hl1 := hS.g.lt); (have hl2 := World.block_lt_of_cell? w' _ y0); clear hS; go_simp; first | done | exact rfl)); (case putwc8 => (first | (simp only [Act.put, List.setIfInBounds_toArray, List.set_cons_zero, List.set_cons_succ]; first | done | exact rfl) | rfl)); (case' nextwc8 => skip))
      (refine' GG.grow_lit (GG.S1.still (by decide)) rfl ?wtwc9 ?runwc9 ?putwc9 ?nextwc9; (case wtwc9 => rfl); (case runwc9 => (intro w' hS; (obtain ⟨dn, s, hS⟩ := hS); (obtain ⟨c0, c1, c2, c3, c4, -⟩ := (hS.k.blk KP.out HPB.out.2.2.2.2).o5); (obtain ⟨d0, d1, -⟩ := hS.g.o2); (have y0 := hS.c); (have hl0 := (hS.k.blk KP.out HPB.out.2.2.2.2).lt); (have hl1 := hS.g.lt); (have hl2 := World.block_lt_of_cell? w' _ y0); clear hS; go_simp; first | done | exact rfl)); (case putwc9 => (first | (simp only [Act.put, List.setIfInBounds_toArray, List.set_cons_zero, List.set_cons_succ]; first | done | exact rfl) | rfl)); (case' nextwc9 => skip))
      (refine' GG.grow_lit (GG.S1.still (by decide)) rfl ?wtwc10 ?runwc10 ?putwc10 ?nextwc10; (case wtwc10 => rfl); (case runwc10 => (intro w' hS; (obtain ⟨dn, s, hS⟩ := hS); (obtain ⟨c0, c1, c2, c3, c4, -⟩ := (hS.k.blk KP.out HPB.out.2.2.2.2).o5); (obtain ⟨d0, d1, -⟩ := hS.g.o2); (have y0 := hS.c); (have hl0 := (hS.k.blk KP.out HPB.out.2.2.2.2).lt); (have hl1 := hS.g.lt); (have hl2 := World.block_lt_of_cell? w' _ y0); clear hS; go_simp; first | done | exact rfl)); (case putwc10 => (first | (simp only [Act.put, List.setIfInBounds_toArray, List.set_cons_zero, List.set_cons_succ]; first | done | exact rfl) | rfl)); (case' nextwc10 => skip))
      (refine' GG.grow_lit (GG.S1.still (by decide)) rfl ?wtwc11 ?runwc11 ?putwc11 ?nextwc11; (case wtwc11 => rfl); (case runwc11 => (intro w' hS; (obtain ⟨dn, s, hS⟩ := hS); (obtain ⟨c0, c1, c2, c3, c4, -⟩ := (hS.k.blk KP.out HPB.out.2.2.2.2).o5); (obtain ⟨d0, d1, -⟩ := hS.g.o2); (have y0 := hS.c); (have hl0 := (hS.k.blk KP.out HPB.out.2.2.2.2).lt); (have hl1 := hS.g.lt); (have hl2 := World.block_lt_of_cell? w' _ y0); clear hS; go_simp; first | done | exact rfl)); (case putwc11 => (first | (simp only [Act.put, List.setIfInBounds_toArray, List.set_cons_zero, List.set_cons_succ]; first | done | exact rfl) | rfl)); (case' nextwc11 => skip))
      (refine' GG.grow_lit (GG.S1.still (by decide)) rfl ?wtwc12 ?runwc12 ?putwc12 ?nextwc12; (case wtwc12 => rfl); (case runwc12 => (intro w' hS; (obtain ⟨dn, s, hS⟩ := hS); (obtain ⟨c0, c1, c2, c3, c4, -⟩ := (hS.k.blk KP.out HPB.out.2.2.2.2).o5); (obtain ⟨d0, d1, -⟩ := hS.g.o2); (have y0 := hS.c); (have hl0 := (hS.k.blk KP.out HPB.out.2.2.2.2).lt); (have hl1 := hS.g.lt); (have hl2 := World.block_lt_of_cell? w' _ y0); clear hS; go_simp; first | done | exact rfl)); (case putwc12 => (first | (simp only [Act.put, List.setIfInBounds_toArray, List.set_cons_zero, List.set_cons_succ]; first | done | exact rfl) | rfl)); (case' nextwc12 => skip))
      (refine' GG.grow_lit (GG.S1.still (by decide)) rfl ?wtwc13 ?runwc13 ?putwc13 ?nextwc13; (case wtwc13 => rfl); (case runwc13 => (intro w' hS; (obtain ⟨dn, s, hS⟩ := hS); (obtain ⟨c0, c1, c2, c3, c4, -⟩ := (hS.k.blk KP.out HPB.out.2.2.2.2).o5); (obtain ⟨d0, d1, -⟩ := hS.g.o2); (have y0 := hS.c); (have hl0 := (hS.k.blk KP.out HPB.out.2.2.2.2).lt); (have hl1 := hS.g.lt); (have hl2 := World.block_lt_of_cell? w' _ y0); clear hS; go_simp; first | done | exact rfl)); (case putwc13 => (first | (simp only [Act.put, List.setIfInBounds_toArray, List.set_cons_zero, List.set_cons_succ]; first | done | exact rfl) | rfl)); (case' nextwc13 => skip))
      (refine' GG.grow_lit (GG.S1.still (by decide)) rfl ?wtwc14 ?runwc14 ?putwc14 ?nextwc14; (case wtwc14 => rfl); (case runwc14 => (intro w' hS; (obtain ⟨dn, s, hS⟩ := hS); (obtain ⟨c0, c1, c2, c3, c4, -⟩ := (hS.k.blk KP.out HPB.out.2.2.2.2).o5); (obtain ⟨d0, d1, -⟩ := hS.g.o2); (have y0 := hS.c); (have hl0 := (hS.k.blk KP.out HPB.out.2.2.2.2).lt); (have hl1 := hS.g.lt); (have hl2 := World.block_lt_of_cell? w' _ y0); clear hS; go_simp; first | done | exact rfl)); (case putwc14 => (first | (simp only [Act.put, List.setIfInBounds_toArray, List.set_cons_zero, List.set_cons_succ]; first | done | exact rfl) | rfl)); (case' nextwc14 => skip))
      (refine' GG.grow_any_op (p := GG.LitI k) (hp := GG.LitI.st k) rfl ?wtwc15 ?runwc15 ?putwc15 ?nextwc15; (case wtwc15 => rfl); (case runwc15 => (intro dn s w' hS hd H; (refine ⟨.slice (some ⟨w'.heap.size, 0, none⟩) 1 1, s, w'.alloc (.cells #[.int .i64 k] 3), ?_, fun _ => ⟨w'.heap.size, rfl, Blk.new _ _ _ _ rfl⟩, (hS.step (by decide)).old (below_alloc1 _), ⟨id, fun _ => below_alloc1 _⟩, (below_alloc1 _).size⟩; clear hS hd H; go_simp))); (case putwc15 => (intro v; (simp only [Act.put, List.setIfInBounds_toArray, List.set_cons_zero, List.set_cons_succ]; first | done | exact rfl))); (case' nextwc15 => intro v15))
      (refine' GG.grow_any_op (p := GG.App1 N (atTo E (k + 1)) ab c W2) (hp := GG.App1.st N (atTo E (k + 1)) ab c W2) rfl ?wtwc16 ?runwc16 ?putwc16 ?nextwc16; (case wtwc16 => rfl); (case runwc16 => (intro dn s w' hS hd H; (obtain rfl : s = false := hS.here.symm.trans hd); (obtain ⟨g, e17, kg⟩ := (show GG.LitI k v15 false w' from H 15 (by decide)) rfl); (obtain ⟨q', n', c', w7, hr, hP, hz, hc7, hg7⟩ := (hS.r rfl).app (L' := (atTo E (k + 1))) (v := c) (x := (k : Int)) hS.c kg HIN2.out (by have := HLM.out c; omega) HC3.out HC4.out); subst e17; exact ⟨_, true, w7, GG.exec_append (.tmp 64) (.tmp 66) 39 rfl rfl rfl hr, ⟨rfl, ⟨_, _, _, rfl⟩, hP⟩, ⟨rfl, (fun h => by cases h), hP.kp, hc7, hg7 _ _ _ hS.g (by decide)⟩, ⟨fun _ => rfl, fun h => by cases h⟩, hz⟩)); (case putwc16 => (intro v; (simp only [Act.put, List.setIfInBounds_toArray, List.set_cons_zero, List.set_cons_succ]; first | done | exact rfl))); (case' nextwc16 => intro v16))
      (refine' GG.grow_lit (GG.S1.still (by decide)) rfl ?wtwc17 ?runwc17 ?putwc17 ?nextwc17; (case wtwc17 => rfl); (case runwc17 => (intro w' hS; (obtain ⟨dn, s, hS⟩ := hS); (obtain ⟨c0, c1, c2, c3, c4, -⟩ := (hS.k.blk KP.out HPB.out.2.2.2.2).o5); (obtain ⟨d0, d1, -⟩ := hS.g.o2); (have y0 := hS.c); (have hl0 := (hS.k.blk KP.out HPB.out.2.2.2.2).lt); (have hl1 := hS.g.lt); (have hl2 := World.block_lt_of_cell? w' _ y0); clear hS; go_simp; first | done | exact rfl)); (case putwc17 => (first | (simp only [Act.put, List.setIfInBounds_toArray, List.set_cons_zero, List.set_cons_succ]; first | done | exact rfl) | rfl)); (case' nextwc17 => skip))
      intro dn s w7 hS7 _ hk7
      obtain ⟨-, ⟨qz, nz, cz, rfl⟩, hP⟩ : GG.App1 N (atTo E (k + 1)) ab c W2 v16 s w7 := hk7 16 (by decide)
      obtain ⟨⟨uo, hc7⟩, hf7, hl7, hnew⟩ := hP.put
      have HNEW2 := Lib.hid hnew
      have KG8 := Lib.hid (hS7.g.other (k := ab) c (.slice qz nz cz) HGA.out)
      clear hk7 hS7 hP hnew SA0
      refine wpAny_ready (rs := [18]) (by kernel_rfl) (by simp) (AllReady.cons rfl (fun K hK => ?_) AllReady.nil)
      go_simp
      refine hK _ _ ?_
      clear hK K
      refine wpAny_done (by kernel_rfl) ?_ _
      clear hc7 hf7 hl7
      go_wp2_with fail
      go_roundw
      case rel => exact ⟨k + 1, by omega, by go_num, HNEW2.out⟩
      case measure => simp [intOf]; omega
    · obtain rfl : k = E.length := by omega
      have hz : (zE E).length = E.length := zE_len E
      obtain ⟨us, h1, h2, h3, h4⟩ := hat.rows
      have hkp := hat.kp
      have hlo := HLO.out
      have hpb := HPB.out
      have HWP : Hid (WebPost P w N E S D (.slice eq0 E.length ec0) (.slice fq fl fc) (.returned (pt pb)) wr) := Lib.hid ⟨pb, ab, us, _, _, rfl, ⟨hkp.blk KP.out (by omega), HP.out _ hpb.1, HE.out.below hbw, HEA.out, h1, HP.out _ hlo.1, h2, fun i u hu => ⟨ints_of_owns (h3 i u hu) (by have := atTo_len E i E.length; show (atTo E E.length i).length ≤ _; omega), own_av (h3 i u hu) (fun g hg => HP.out g (by omega))⟩, bools_of_blk (hkp.blk KSB2.out HNE.out.1) markL_len (by omega), Av.at (HP.out _ hlo.2.1), bools_of_blk (hkp.blk KDB2.out HNE.out.2) markL_len (by omega), Av.at (HP.out _ hlo.2.2), markL_len, markL_len, HEIN.out, hN, hen⟩, hpb.1, hlo.1, hbw⟩
      clear hat h1 h2 h3 h4 hkp hlo hpb hbw AT0 hz
      go_wp2_with fail
      go_ret
      exact HWP.out
end
end Go.Proofs.YthfljimgpcignaaGreatDoor
