/-
  One number of 64 bits, many times over.
-/
import Derived.Test.YtlfihaajnjeaeaaGreatDoorF2
import Derived.Test.YtlfihaajnjeaeaaGreatDoorShelf
import Derived.Test.YtlfihaajnjeaeaaGreatDoorD2
import Derived.Laws.CopyOwn
import Derived.Laws.MakeOwn
import Derived.IntWalk
import Derived.Test.YtlfihaajnjeaeaaGreatDoorK3
namespace Go.Proofs.YtlfihaajnjeaeaaGreatDoor.HP.R64
open Go.RowKit

theorem infoInt : (Tryz.prog.info? 2).map (fun i => (i.zero, i.size, i.bytes)) = some (some (.int .i64 0), 1, 8) := by kernel_rfl
theorem infoInt1 : (Tryz.prog.info? 2).map (·.size) = some 1 := by kernel_rfl
theorem mul1 (n : Nat) (hn : n ≤ 16384) (w : World) : Calls Tryz.prog 105 #[.int .u64 1, .int .u64 n] w fun e w' => e = .returned (.tuple #[.int .u64 0, .int .u64 n]) ∧ w = w' := by
  refine (Tryz.bits_Mul 1 n (by decide) (by omega) w).mono ?_
  rintro e w' ⟨rfl, rfl⟩
  have h1 : (1 * n / 18446744073709551616 : Nat) = 0 := by omega
  have h2 : (1 * n % 18446744073709551616 : Nat) = n := by omega
  rw [h1, h2]
  exact ⟨rfl, rfl⟩
def repL (j n : Nat) (a z : Value) : List Value := List.replicate j a ++ List.replicate (n - j) z
theorem repL_len {j n : Nat} (h : j ≤ n) (a z : Value) : (repL j n a z).length = n := by unfold repL; simp; omega
theorem repL_splice {j n m : Nat} (a z : Value) (h : j + m ≤ n) : splice (repL j n a z) j (List.replicate m a) = repL (j + m) n a z := by
  unfold splice repL
  rw [List.take_left' (by simp), List.drop_append]
  simp only [List.length_replicate, List.drop_replicate, show j - (j + m) = 0 from by omega, show n - j - (j + m - j) = n - (j + m) from by omega, List.replicate_zero, List.nil_append]
  rw [← List.append_assoc, List.replicate_append_replicate]
theorem repL_get {j n i : Nat} (a z : Value) (h : i < j) : (repL j n a z)[i]? = some a := by
  unfold repL
  rw [List.getElem?_append_left (by simpa using h), List.getElem?_replicate, if_pos h]
theorem made1 (z : Value) (n : Nat) : madeCells #[z] n = (List.replicate n z).toArray := by
  apply Array.ext
  · simp [size_madeCells]
  · intro i h1 h2
    simp [madeCells, Nat.mod_one]
/-- The run of make for rows of one cell an element. -/
theorem make1 (w : World) (t e : TypeId) (z : Value) (by' : Nat) (hc : z.cells = #[z]) (ht : Tryz.prog.underlying t = some (.slice e)) (hinf : (Tryz.prog.info? e).map (fun i => (i.zero, i.size, i.bytes)) = some (some z, 1, by')) (n : Nat) (hn : n ≤ 16384) (hb : by' ≤ 8) :
    (Instr.makeSlice t (.int .i64 (n : Int)) (.int .i64 (n : Int))).run Tryz.prog w = .ok (.slice (some ⟨w.heap.size, 0, none⟩) n n) (w.alloc (.cells (List.replicate n z).toArray e)) := by
  obtain ⟨i0, hi, hz0, hz1, hz2⟩ := info_parts hinf
  have hbn : (i0.bytes : Int) * (n : Int) ≤ 281474976710656 := by
    have : i0.bytes * n ≤ 8 * 16384 := Nat.mul_le_mul (by omega) hn
    have h2 : ((i0.bytes * n : Nat) : Int) ≤ ((8 * 16384 : Nat) : Int) := by exact_mod_cast this
    rw [Int.natCast_mul] at h2
    omega
  have := run_make (P := Tryz.prog) w t e i0 z ht hi hz0 .i64 .i64 n n (by omega) (Int.le_refl _) hbn (by omega)
  rw [hz1, hc, Nat.mul_one, Int.toNat_natCast, made1] at this
  exact this
theorem copy1 {w : World} {b M : Nat} {a : Value} (hc : w.cell? ⟨b, 0, none⟩ = some a) (hM : M ≤ 1) {j : Nat} {v : Value} (hj : (List.replicate M a)[j]? = some v) : w.cell? ((⟨b, 0, none⟩ : Addr).add j) = some v := by
  rw [List.getElem?_replicate] at hj
  split at hj
  · injection hj with hj
    subst hj
    have : j = 0 := by omega
    subst this
    exact hc
  · cases hj
/-- The copies at a round's head. -/
def RepRel (w : World) (n : Nat) (v : Value) (wr : World) : Prop :=
  ∃ j : Nat, v = .int .i64 j ∧ j ≤ n ∧ (0 < n → 0 < j) ∧ wr.heap[w.heap.size]? = some (.cells (repL j n (.int .i64 1152921504606846976) (.int .i64 0)).toArray 2 (0, 0)) ∧ Below w.heap.size w wr
def RepPost (w : World) (n : Nat) (e : Ending) (w' : World) : Prop :=
  e = .returned (.slice (some ⟨w.heap.size, 0, none⟩) n n) ∧ Blk w' w.heap.size (List.replicate n (Value.int .i64 1152921504606846976)).toArray 2 ∧ Below w.heap.size w w'

/-- The row, so far. -/
def RepA (w : World) (n j : Nat) (wr : World) : Prop := wr.heap[w.heap.size]? = some (.cells (repL j n (.int .i64 1152921504606846976) (.int .i64 0)).toArray 2 (0, 0)) ∧ Below w.heap.size w wr
theorem RepA.copy {w wr : World} {n j m : Nat} (h : RepA w n j wr) (hm : m = Nat.min j (n - j)) (hjm : j + m ≤ n) :
    ∃ w9, (Builtin.copy_ #[41, 41] 3 #[.slice (some ⟨w.heap.size, j, none⟩) (n - j) (n - j), .slice (some ⟨w.heap.size, 0, none⟩) j n]).run Tryz.prog wr = .ok (.int .i64 m) w9 ∧ RepA w n (j + m) w9 ∧ wr.heap.size ≤ w9.heap.size := by
  obtain ⟨hg, hb⟩ := h
  have hrun := run_copy_row (P := Tryz.prog) wr 41 41 3 2 w.heap.size j (n - j) (n - j) ⟨w.heap.size, 0, none⟩ j n _ 2 (List.replicate m (.int .i64 1152921504606846976)) Tryz.underlying41 infoInt1 hg (by rw [List.length_replicate]; exact hm)
    (fun i v hi => by
      rw [List.getElem?_replicate] at hi
      split at hi
      · injection hi with hi
        subst hi
        have hij : i < j := by have h9 : Nat.min j (n - j) ≤ j := Nat.min_le_left _ _; omega
        have hadd : (⟨w.heap.size, 0, none⟩ : Addr).add i = ⟨w.heap.size, i, none⟩ := by unfold Addr.add; split <;> simp_all
        rw [hadd, cell_of_row wr w.heap.size i _ _ _ hg]
        simpa using repL_get (.int .i64 1152921504606846976) (.int .i64 0) hij
      · cases hi)
    (by rw [List.length_replicate]; simp only [List.size_toArray]; rw [repL_len (by omega)]; exact hjm) (fun v hv => by rw [List.eq_of_mem_replicate hv]; rfl)
  rw [List.length_replicate] at hrun
  refine ⟨_, hrun, ⟨?_, below_setRow hb (Nat.le_refl _) _⟩, by simp [World.setRow]⟩
  have := setRow_heap wr w.heap.size (repL j n (.int .i64 1152921504606846976) (.int .i64 0)).toArray ((repL j n (.int .i64 1152921504606846976) (.int .i64 0)).take j ++ (List.replicate m (Value.int .i64 1152921504606846976) ++ (repL j n (.int .i64 1152921504606846976) (.int .i64 0)).drop (j + m))).toArray 2 (0, 0) hg
  have e := repL_splice (j := j) (n := n) (m := m) (.int .i64 1152921504606846976) (.int .i64 0) hjm
  unfold splice at e
  rw [List.length_replicate] at e
  rw [e] at this
  simpa [e] using this

set_option maxHeartbeats 4000000 in
set_option maxRecDepth 100000 in
theorem hrepeat (n : Nat) (hn : n ≤ 16384) (b : Nat) (w : World) (hb : Blk w b #[.int .i64 1152921504606846976] 2) : Calls Tryz.prog 75 #[.slice (some ⟨b, 0, none⟩) 1 1, .int .i64 n] w (RepPost w n) := by
  obtain ⟨c0, f0⟩ := hb.o1
  have hblt := hb.lt
  have hni : (n : Int) ≤ 16384 := by omega
  have hn0 : (0 : Int) ≤ n := by omega
  have HB := Lib.hid hb
  have hmk := make1 w 41 2 (.int .i64 0) 8 rfl Tryz.underlying41 infoInt n hn (by decide)
  clear hb
  obtain ⟨M, hM1, hM2⟩ : ∃ M : Nat, M = Nat.min 1 n ∧ M ≤ n := ⟨_, rfl, Nat.min_le_right _ _⟩
  have hM3 : 0 < n → 0 < M := fun h => by rw [hM1]; exact Nat.lt_min.2 ⟨by omega, h⟩
  have hM4 : M ≤ 1 := by rw [hM1]; exact Nat.min_le_left _ _
  have HM1 := Lib.hid hM1
  have HM3 := Lib.hid hM3
  clear hM1 hM3
  obtain ⟨w1, hw1⟩ := named (w.alloc (.cells (List.replicate n (.int .i64 0)).toArray 2))
  have hb1 : Below w.heap.size w w1 := by rw [hw1]; exact below_new _
  have hg1 : w1.heap[w.heap.size]? = some (.cells (repL 0 n (.int .i64 1152921504606846976) (.int .i64 0)).toArray 2 (0, 0)) := by rw [hw1]; simpa [repL] using heap_alloc_new w (.cells (List.replicate n (.int .i64 0)).toArray 2)
  have hc1 := keep hb1 c0
  have HB1 := Lib.hid hb1
  have HG1 := Lib.hid hg1
  have HC1 := Lib.hid hc1
  rw [← hw1] at hmk
  clear hb1 hg1 hc1 hw1
  go_enter Tryz.func75, Tryz.ntmps75
  go_wp2_with fail
  refine (mul1 n hn _).mono ?_
  rintro e w' ⟨rfl, rfl⟩
  go_wp2_with (refine wpList_copy_splice rfl (.tmp 31) (.tmp 32) 41 41 rfl 2 Tryz.underlying41 infoInt1 (some ⟨w.heap.size, 0, none⟩) (some ⟨b, 0, none⟩) n n 1 1 rfl rfl w.heap.size 0 (repL 0 n (.int .i64 1152921504606846976) (.int .i64 0)) 2 HG1.out (List.replicate M (.int .i64 1152921504606846976)) (by rw [List.length_replicate]; exact HM1.out) (fun _ => ⟨rfl, _, rfl, fun j v hj => copy1 HC1.out hM4 hj⟩) (by rw [List.length_replicate, repL_len (Nat.zero_le _)]; omega) (fun v hv => by rw [List.eq_of_mem_replicate hv]; rfl) w.heap.size w HB1.out (Nat.le_refl _) ?_; intro w2 hg2 hb2)
  have HR2 : Hid (RepRel w n (.int .i64 M) w2) := Lib.hid ⟨M, rfl, hM2, HM3.out, by have := hg2.out; rw [repL_splice _ _ (by omega), Nat.zero_add] at this; exact this, hb2⟩
  clear hg2 hb2 HM1 HM3 hM4
  go_loopw [8] (fun v wr => RepRel w n v wr) (fun v _ => n - (intOf v).toNat)
  case atStart => exact HR2.out
  case round =>
    obtain ⟨j, rfl, hj, hj0, hg, hb⟩ := hrel
    clear HR2
    obtain ⟨wo, rfl⟩ : ∃ wo : World, wo = wr := ⟨_, rfl⟩
    by_cases hlt : j < n
    · have hjp := hj0 (by omega)
      obtain ⟨m, hm1, hm2, hm3⟩ : ∃ m : Nat, m = Nat.min j (n - j) ∧ j + m ≤ n ∧ 0 < m := ⟨_, rfl, by have h9 : Nat.min j (n - j) ≤ n - j := Nat.min_le_right _ _; omega, Nat.lt_min.2 ⟨hjp, by omega⟩⟩
      have HG := Lib.hid hg
      have HB := Lib.hid hb
      have HM := Lib.hid hm1
      have hs1 : IntKind.i64.wrap ((j : Int) + (m : Int)) = ((j + m : Nat) : Int) := by rw [IntWalk.i64_in _ (by omega)]; omega
      have hne : ¬ n = j := by omega
      have hjn : (j : Int) ≤ (n : Int) := by omega
      clear hg hb hm1 hj0
      go_wp2_with fail
      have A0 := Lib.hid (show RepA w n j wo.drew from ⟨HG.out, HB.out.drew⟩)
      refine' GG.wp_thenL _ 9 (GG.OneW 7 (RepA w n j) (RepA w n (j + m))) [[], [], [], [1, 2], [], [], [4, 5], [1, 2, 3, 4, 5, 6], [0, 1, 2, 3, 4, 5, 6, 7]] (GG.Fact.lit (Rl := GG.RlW) _ :: GG.Fact.lit (Rl := GG.RlW) _ :: GG.Fact.lit (Rl := GG.RlW) _ :: GG.Fact.lit (Rl := GG.RlW) _ :: GG.Fact.lit (Rl := GG.RlW) _ :: GG.Fact.lit (Rl := GG.RlW) _ :: GG.Fact.lit (Rl := GG.RlW) _ :: GG.Fact.lit (Rl := GG.RlW) _ :: GG.Fact.lit (Rl := GG.RlW) _ :: []) (by kernel_rfl) rfl (by kernel_rfl) (()) (GG.OneW.start A0.out) ?seqrp
      case' seqrp => skip
      iterate 7 (apply GG.grow_lit (GG.OneW.still (by decide)); (case hf => rfl); (case hw => rfl); (case hrun => (intro w' hS; (obtain ⟨dn, s, hS⟩ := hS); clear hS; go_simp; first | done | exact rfl)); (case hc => (first | (simp only [Act.put, List.setIfInBounds_toArray, List.set_cons_zero, List.set_cons_succ]; first | done | exact rfl) | rfl)))
      (refine' GG.grow_write (u := .int .i64 m) rfl ?wtrp7 ?runrp7 ?putrp7 ?nextrp7; (case wtrp7 => rfl); (case runrp7 => (intro dn s w' hS hd H; obtain ⟨w9, hr9, h9, hz9⟩ := (hS.g0 hd).copy HM.out hm2; exact ⟨(), w9, (by clear hS H; go_simp), GG.OneW.put h9, trivial, hz9⟩)); (case putrp7 => (first | (simp only [Act.put, List.setIfInBounds_toArray, List.set_cons_zero, List.set_cons_succ]; first | done | exact rfl) | rfl)); (case' nextrp7 => skip))
      (refine' GG.grow_lit (GG.OneW.still (by decide)) rfl ?wtrp8 ?runrp8 ?putrp8 ?nextrp8; (case wtrp8 => rfl); (case runrp8 => (intro w' hS; (obtain ⟨dn, s, hS⟩ := hS); clear hS; go_simp; first | done | exact rfl)); (case putrp8 => (first | (simp only [Act.put, List.setIfInBounds_toArray, List.set_cons_zero, List.set_cons_succ]; first | done | exact rfl) | rfl)); (case' nextrp8 => skip))
      intro dn s W1 hS hdn _
      have HA1 := Lib.hid (hS.g1 (hdn 7 (by decide)))
      clear hS hdn A0 HG HB HM
      refine wpAny_ready (rs := [9]) (by kernel_rfl) (by simp) (AllReady.cons rfl (fun K hK => ?_) AllReady.nil)
      go_simp
      refine hK _ _ ?_
      clear hK K
      refine wpAny_done (by kernel_rfl) ?_ _
      go_wp2_with fail
      go_roundw
      case rel => exact ⟨j + m, rfl, hm2, fun _ => by omega, HA1.out.1, HA1.out.2⟩
      case measure => simp [intOf]; omega
    · have hjn : j = n := by omega
      have HG := Lib.hid hg
      have HB := Lib.hid hb
      have hdl : decide (j < n) = false := by simpa using hlt
      clear hg hb hj0 hlt
      go_wp2_with fail
      go_ret
      exact ⟨rfl, by have := HG.out; rw [hjn] at this; unfold repL at this; rw [Nat.sub_self, List.replicate_zero, List.append_nil] at this; exact this, HB.out⟩

theorem hrepeat_z {n : Nat} (z : Int) (hn : n ≤ 16384) (hz : z = (n : Int)) (b : Nat) (w : World) (hb : Blk w b #[.int .i64 1152921504606846976] 2) : Calls Tryz.prog 75 #[.slice (some ⟨b, 0, none⟩) 1 1, .int .i64 z] w (RepPost w n) := by
  subst hz
  exact hrepeat n hn b w hb
end Go.Proofs.YtlfihaajnjeaeaaGreatDoor.HP.R64

/-
  A heap beside protected blocks; the tree of costs and of the arcs ahead, as it lies in memory.
-/
namespace Go.Proofs.YtlfihaajnjeaeaaGreatDoor
open HP Go.RowKit

theorem keep_of_hp {P : Nat → Prop} {w w' : World} (h : HP.Keep P w w') : Keep P w w' := ⟨h.os, h.tape, h.output, h.size, h.block⟩
/-- A heap at p, none of whose blocks was there in w0, or is of bs. -/
def Hk (w0 w : World) (p N : Nat) (m : Nat → Option Int) (bs : List Nat) : Prop := ∃ S, HpAt S w p N m ∧ (∀ b, b < w0.heap.size → ¬ S b) ∧ ∀ b, b ∈ bs → ¬ S b
/-- What stays beside it. -/
def HkK (w0 : World) (bs : List Nat) (b : Nat) : Prop := b < w0.heap.size ∨ b ∈ bs
section
variable {w0 w w' : World} {p N : Nat} {m : Nat → Option Int} {bs : List Nat}
theorem Hk.old (h : Hk w0 w p N m bs) (hb : Below w.heap.size w w') : Hk w0 w' p N m bs := by
  obtain ⟨S, h1, h2, h3⟩ := h
  exact ⟨S, h1.old hb, h2, h3⟩
/-- New blocks are protected, too. -/
theorem Hk.add (h : Hk w0 w p N m bs) {qs : List Nat} (hq : ∀ q, q ∈ qs → w.heap.size ≤ q) : Hk w0 w p N m (qs ++ bs) := by
  obtain ⟨S, h1, h2, h3⟩ := h
  refine ⟨fun b => S b ∧ b < w.heap.size, h1.mono (fun b h h' => ⟨h', h⟩), fun b hb h => h2 b hb h.1, fun b hb h => ?_⟩
  rcases List.mem_append.1 hb with hb | hb
  · have := hq b hb
    omega
  · exact h3 b hb h.1
theorem Hk.sub (h : Hk w0 w p N m bs) {qs : List Nat} (hq : ∀ q, q ∈ qs → q ∈ bs) : Hk w0 w p N m qs := by
  obtain ⟨S, h1, h2, h3⟩ := h
  exact ⟨S, h1, h2, fun b hb => h3 b (hq b hb)⟩
/-- Writing a protected block leaves it. -/
theorem Hk.keep {Q : Nat → Prop} (h : Hk w0 w p N m bs) (hk : Keep Q w w') (hq : ∀ b, b ∉ bs → Q b) : Hk w0 w' p N m bs := by
  obtain ⟨S, h1, h2, h3⟩ := h
  exact ⟨S, h1.keep (Q := Q) ⟨hk.os, hk.tape, hk.output, hk.size, hk.block⟩ (fun b _ hs => hq b (fun hb => h3 b hb hs)), h2, h3⟩
theorem Hk.put (h : Hk w0 w p N m bs) (hz : w0.heap.size ≤ w.heap.size) (hbs : ∀ b, b ∈ bs → b < w.heap.size) (k c : Int) (k0 : -9223372036854775808 ≤ k) (k1 : k ≤ 9223372036854775807) (c0 : -9223372036854775808 ≤ c) (c1 : c ≤ 9223372036854775807) {B : Bool} (hB : putB N m k c = B) :
    Calls Tryz.prog 78 #[hp p, .int .i64 k, .int .i64 c] w fun e w' => e = .returned (.bool B) ∧ Hk w0 w' p N (putM N m k c) bs ∧ Keep (HkK w0 bs) w w' := by
  obtain ⟨S, h1, h2, h3⟩ := h
  subst hB
  refine (vput h1 k c k0 k1 c0 c1).mono ?_
  rintro e w' ⟨rfl, h4, h5⟩
  refine ⟨rfl, ⟨_, h4, fun b hb hp => ?_, fun b hb hp => ?_⟩, (keep_of_hp h5).mono (fun b hb => ?_)⟩
  · rcases hp with hp | hp
    · exact h2 b hb hp
    · omega
  · rcases hp with hp | hp
    · exact h3 b hb hp
    · have := hbs b hb
      omega
  · rcases hb with hb | hb
    · exact h2 b hb
    · exact h3 b hb
theorem Hk.pop (h : Hk w0 w p N m bs) (hz : w0.heap.size ≤ w.heap.size) (hbs : ∀ b, b ∈ bs → b < w.heap.size) {x : Int × Int × Bool} (hx : popV N m = x) :
    Calls Tryz.prog 79 #[hp p] w fun e w' => e = .returned (popT x) ∧ Hk w0 w' p N (popM N m) bs ∧ Keep (HkK w0 bs) w w' := by
  obtain ⟨S, h1, h2, h3⟩ := h
  subst hx
  refine (vpop h1).mono ?_
  rintro e w' ⟨rfl, h4, h5⟩
  refine ⟨rfl, ⟨_, h4, fun b hb hp => ?_, fun b hb hp => ?_⟩, (keep_of_hp h5).mono (fun b hb => ?_)⟩
  · rcases hp with hp | hp
    · exact h2 b hb hp
    · omega
  · rcases hp with hp | hp
    · exact h3 b hb hp
    · have := hbs b hb
      omega
  · rcases hb with hb | hb
    · exact h2 b hb
    · exact h3 b hb
/-- A new one. -/
theorem Hk.new (w0 w : World) (hz : w0.heap.size ≤ w.heap.size) {bs : List Nat} (hbs : ∀ b, b ∈ bs → b < w.heap.size) {N : Nat} (hN : N ≤ 16384) : Calls Tryz.prog 77 #[.int .i64 N] w fun e w' => ∃ p, e = .returned (hp p) ∧ Hk w0 w' p N (fun _ => none) bs ∧ Below w.heap.size w w' := by
  refine (hnew_any N w (by omega) (by omega)).mono ?_
  rintro e w' ⟨p, rfl, h, hb⟩
  have hk : keysN (N : Int) = N := by unfold keysN; rw [if_neg (by omega), if_neg (by omega), Int.toNat_natCast]
  rw [hk] at h
  exact ⟨p, rfl, ⟨_, h, fun b hb hp => by omega, fun b hb hp => by have := hbs b hb; omega⟩, hb⟩
end
/-- The cells of a row of numbers. -/
abbrev numC (C : List Int) : Array Value := (C.map (Value.int .i64)).toArray
/-- A tree of N arcs at tb: its costs at cb, the arcs ahead at bb. -/
structure TreeAt (w : World) (N tb cb bb : Nat) (C B : List Int) : Prop where
  t : Blk w tb #[.slice (some ⟨cb, 0, none⟩) N N, .slice (some ⟨bb, 0, none⟩) N N] 81
  c : Blk w cb (numC C) 2
  b : Blk w bb (numC B) 3
  cl : C.length = N
  bl : B.length = N
section
variable {w w' : World} {N tb cb bb : Nat} {C B : List Int}
theorem TreeAt.keep {Q : Nat → Prop} (h : TreeAt w N tb cb bb C B) (hk : Keep Q w w') (ht : Q tb) (hc : Q cb) (hb : Q bb) : TreeAt w' N tb cb bb C B := ⟨hk.blk h.t ht, hk.blk h.c hc, hk.blk h.b hb, h.cl, h.bl⟩
theorem TreeAt.old (h : TreeAt w N tb cb bb C B) (hb : Below w.heap.size w w') : TreeAt w' N tb cb bb C B := ⟨h.t.keep hb, h.c.keep hb, h.b.keep hb, h.cl, h.bl⟩
theorem blk_apart {b1 b2 : Nat} {c1 c2 : Array Value} {t1 t2 : TypeId} (h1 : Blk w b1 c1 t1) (h2 : Blk w b2 c2 t2) (hne : t1 ≠ t2) : b1 ≠ b2 := by
  rintro rfl
  unfold Blk at h1 h2
  rw [h1] at h2
  injection h2 with h2
  injection h2 with _ h2
  exact hne h2
/-- A cost is written. -/
theorem TreeAt.setC (h : TreeAt w N tb cb bb C B) (a : Nat) (x : Int) : TreeAt (w.setCell ⟨cb, a, none⟩ (.int .i64 x)) N tb cb bb (C.set a x) B := by
  refine ⟨h.t.other _ _ (blk_apart h.t h.c (by decide)), ?_, h.b.other _ _ (blk_apart h.b h.c (by decide)), by rw [List.length_set]; exact h.cl, h.bl⟩
  have := h.c.set a (.int .i64 x)
  unfold numC at this ⊢
  rw [List.map_set]
  simpa using this
theorem TreeAt.setB (h : TreeAt w N tb cb bb C B) (a : Nat) (x : Int) : TreeAt (w.setCell ⟨bb, a, none⟩ (.int .i64 x)) N tb cb bb C (B.set a x) := by
  refine ⟨h.t.other _ _ (blk_apart h.t h.b (by decide)), h.c.other _ _ (blk_apart h.c h.b (by decide)), ?_, h.cl, by rw [List.length_set]; exact h.bl⟩
  have := h.b.set a (.int .i64 x)
  unfold numC at this ⊢
  rw [List.map_set]
  simpa using this
theorem numC_at {C : List Int} {a : Nat} (h : a < C.length) : (numC C)[a]? = some (.int .i64 C[a]) := by simp [numC, h]
end

/-- What grow has in memory: what it will answer at rb, the tree, the heap; xs: what else must stay. -/
structure Gs (w wr : World) (N rb tb cb bb hb : Nat) (xs : List Nat) (C B : List Int) (m : Nat → Option Int) : Prop where
  t : TreeAt wr N tb cb bb C B
  r : Blk wr rb #[.slice none 0 0, .slice none 0 0] 81
  h : Hk w wr hb N m (xs ++ [rb, tb, cb, bb])
  b : Below w.heap.size w wr
  x : ∀ q, q ∈ xs → q < wr.heap.size
  c0 : w.heap.size ≤ cb
  b0 : w.heap.size ≤ bb
  ord : rb < tb
section
variable {w wr w' : World} {N rb tb cb bb hb : Nat} {xs : List Nat} {C B : List Int} {m : Nat → Option Int}
theorem Gs.old (g : Gs w wr N rb tb cb bb hb xs C B m) (h : Below wr.heap.size wr w') : Gs w w' N rb tb cb bb hb xs C B m :=
  ⟨g.t.old h, g.r.keep h, g.h.old h, bOn6 g.b h, fun q hq => Nat.lt_of_lt_of_le (g.x q hq) h.size, g.c0, g.b0, g.ord⟩
theorem Gs.add (g : Gs w wr N rb tb cb bb hb xs C B m) (h : Below wr.heap.size wr w') {ys : List Nat} (hy : ∀ q, q ∈ ys → wr.heap.size ≤ q ∧ q < w'.heap.size) : Gs w w' N rb tb cb bb hb (ys ++ xs) C B m := by
  refine ⟨g.t.old h, g.r.keep h, ?_, bOn6 g.b h, fun q hq => ?_, g.c0, g.b0, g.ord⟩
  · rw [List.append_assoc]
    exact (g.h.add (fun q hq => (hy q hq).1)).old h
  · rcases List.mem_append.1 hq with hq | hq
    · exact (hy q hq).2
    · exact Nat.lt_of_lt_of_le (g.x q hq) h.size
theorem Gs.drop {ys : List Nat} (g : Gs w wr N rb tb cb bb hb (ys ++ xs) C B m) : Gs w wr N rb tb cb bb hb xs C B m :=
  ⟨g.t, g.r, g.h.sub (fun q hq => by rw [List.append_assoc]; exact List.mem_append.2 (Or.inr hq)), g.b, fun q hq => g.x q (List.mem_append.2 (Or.inr hq)), g.c0, g.b0, g.ord⟩
theorem Gs.lt (g : Gs w wr N rb tb cb bb hb xs C B m) : ∀ q, q ∈ xs ++ [rb, tb, cb, bb] → q < wr.heap.size := fun q hq => by
  rcases List.mem_append.1 hq with hq | hq
  · exact g.x q hq
  · simp at hq
    rcases hq with rfl | rfl | rfl | rfl
    · exact g.r.lt
    · exact g.t.t.lt
    · exact g.t.c.lt
    · exact g.t.b.lt
theorem Gs.keepH (g : Gs w wr N rb tb cb bb hb xs C B m) {m' : Nat → Option Int} (h : Hk w w' hb N m' (xs ++ [rb, tb, cb, bb])) (k : Keep (HkK w (xs ++ [rb, tb, cb, bb])) wr w') : Gs w w' N rb tb cb bb hb xs C B m' :=
  ⟨g.t.keep k (Or.inr (by simp)) (Or.inr (by simp)) (Or.inr (by simp)), k.blk g.r (Or.inr (by simp)), h, g.b.trans (k.below (fun b hb => Or.inl hb) g.b.size), fun q hq => Nat.lt_of_lt_of_le (g.x q hq) k.size, g.c0, g.b0, g.ord⟩
theorem Gs.put (g : Gs w wr N rb tb cb bb hb xs C B m) (k c : Int) (k0 : -9223372036854775808 ≤ k) (k1 : k ≤ 9223372036854775807) (c0 : -9223372036854775808 ≤ c) (c1 : c ≤ 9223372036854775807) {b : Bool} (hB : putB N m k c = b) {m' : Nat → Option Int} (hm : putM N m k c = m') :
    Calls Tryz.prog 78 #[hp hb, .int .i64 k, .int .i64 c] wr fun e w' => e = .returned (.bool b) ∧ Gs w w' N rb tb cb bb hb xs C B m' ∧ Keep (HkK w (xs ++ [rb, tb, cb, bb])) wr w' := by
  subst hm
  refine (g.h.put g.b.size g.lt k c k0 k1 c0 c1 hB).mono ?_
  rintro e w' ⟨rfl, h1, h2⟩
  exact ⟨rfl, g.keepH h1 h2, h2⟩
theorem Gs.pop (g : Gs w wr N rb tb cb bb hb xs C B m) {x : Int × Int × Bool} (hx : popV N m = x) {m' : Nat → Option Int} (hm : popM N m = m') :
    Calls Tryz.prog 79 #[hp hb] wr fun e w' => e = .returned (popT x) ∧ Gs w w' N rb tb cb bb hb xs C B m' := by
  subst hm
  refine (g.h.pop g.b.size g.lt hx).mono ?_
  rintro e w' ⟨rfl, h1, h2⟩
  exact ⟨rfl, g.keepH h1 h2⟩
theorem Gs.setC (g : Gs w wr N rb tb cb bb hb xs C B m) (a : Nat) (x : Int) : Gs w (wr.setCell ⟨cb, a, none⟩ (.int .i64 x)) N rb tb cb bb hb xs (C.set a x) B m := by
  have hk : Keep (fun b => b ≠ cb) wr (wr.setCell ⟨cb, a, none⟩ (.int .i64 x)) := (Keep.refl _ _).setCell (fun h => h rfl) _ _
  exact ⟨g.t.setC a x, g.r.other _ _ (blk_apart g.r g.t.c (by decide)), g.h.keep hk (fun b hb e => hb (by simp [e])), g.b.trans (hk.below (fun b hb => by have := g.c0; omega) g.b.size), fun q hq => Nat.lt_of_lt_of_le (g.x q hq) hk.size, g.c0, g.b0, g.ord⟩
theorem Gs.setB (g : Gs w wr N rb tb cb bb hb xs C B m) (a : Nat) (x : Int) : Gs w (wr.setCell ⟨bb, a, none⟩ (.int .i64 x)) N rb tb cb bb hb xs C (B.set a x) m := by
  have hk : Keep (fun b => b ≠ bb) wr (wr.setCell ⟨bb, a, none⟩ (.int .i64 x)) := (Keep.refl _ _).setCell (fun h => h rfl) _ _
  exact ⟨g.t.setB a x, g.r.other _ _ (blk_apart g.r g.t.b (by decide)), g.h.keep hk (fun b hb e => hb (by simp [e])), g.b.trans (hk.below (fun b hb => by have := g.b0; omega) g.b.size), fun q hq => Nat.lt_of_lt_of_le (g.x q hq) hk.size, g.c0, g.b0, g.ord⟩
theorem Gs.drew (g : Gs w wr N rb tb cb bb hb xs C B m) : Gs w wr.drew N rb tb cb bb hb xs C B m := g.old (Below.refl _ _).drew
end
/-- The cells of a world as a row. -/
def cellI : Option Value → Int
  | some (.int _ x) => x
  | _ => 0
def potW (w : World) (cb N : Nat) : Nat := potL ((List.range N).map fun i => cellI (w.cell? ⟨cb, i, none⟩))
theorem TreeAt.pot {w : World} {N tb cb bb : Nat} {C B : List Int} (h : TreeAt w N tb cb bb C B) : potW w cb N = potL C := by
  unfold potW
  congr 1
  refine List.ext_getElem (by simp [h.cl]) (fun i h1 h2 => ?_)
  rw [List.getElem_map, List.getElem_range, h.c.cell i (numC_at h2)]
  rfl
/-- All steps of what is out have been looked at. -/
def Eall (L : Nat → List It) (D : List Nat) : Nat → It → Prop := fun a y => a ∈ D ∧ y ∈ L a
/-- .. and the first k of a's. -/
def Ek (L : Nat → List It) (D : List Nat) (a k : Nat) : Nat → It → Prop := fun a' y => Eall L D a' y ∨ (a' = a ∧ y ∈ (L a).take k)
theorem Ek_zero {L : Nat → List It} {D : List Nat} {a : Nat} (a' : Nat) (y : It) (h : Ek L D a 0 a' y) : Eall L D a' y := by
  rcases h with h | ⟨-, h⟩
  · exact h
  · simp at h
theorem Ek_succ {L : Nat → List It} {D : List Nat} {a k : Nat} (hk : k < (L a).length) (a' : Nat) (y : It) (h : Ek L D a (k + 1) a' y) : Eadd (Ek L D a k) a (L a)[k] a' y := by
  rcases h with h | ⟨h1, h⟩
  · exact Or.inl (Or.inl h)
  · rw [List.take_succ_eq_append_getElem hk] at h
    rcases List.mem_append.1 h with h | h
    · exact Or.inl (Or.inr ⟨h1, h⟩)
    · exact Or.inr ⟨h1, List.mem_singleton.1 h⟩
theorem Ek_all {L : Nat → List It} {D : List Nat} {a k : Nat} (hk : (L a).length ≤ k) (a' : Nat) (y : It) (h : Eall L (a :: D) a' y) : Ek L D a k a' y := by
  obtain ⟨h1, h2⟩ := h
  rcases List.mem_cons.1 h1 with rfl | h1
  · exact Or.inr ⟨rfl, by rw [List.take_of_length_le hk]; exact h2⟩
  · exact Or.inl ⟨h1, h2⟩

end Go.Proofs.YtlfihaajnjeaeaaGreatDoor
