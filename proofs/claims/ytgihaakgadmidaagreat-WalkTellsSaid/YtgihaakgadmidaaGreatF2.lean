/-
  The program's heap: Put.
-/
import Derived.Test.YtgihaakgadmidaaGreatF1
import Derived.Test.YtgihaakgadmidaaGreatA2
import Derived.Deep.RegionLaw
import Derived.Maps.AppendAt
import Derived.Test.YtgihaakgadmidaaGreatShelf
import Derived.Test.YtgihaakgadmidaaGreatD2
import Derived.Laws.CopyOwn
import Derived.Laws.MakeOwn
import Derived.IntWalk
namespace Go.Proofs.YtgihaakgadmidaaGreat.HP
open Go.RowKit

/-- A pointer to a new block. -/
def PtrC (W : World) (cs : Array Value) (t : TypeId) (v : Value) (w : World) : Prop := ∃ b, v = .pointer (some ⟨b, 0, none⟩) ∧ W.heap.size ≤ b ∧ Blk w b cs t
theorem PtrC.below {W w w' : World} {cs : Array Value} {t : TypeId} {v : Value} (h : PtrC W cs t v w) (hb : Below w.heap.size w w') : PtrC W cs t v w' := by
  obtain ⟨b, e, h1, h2⟩ := h
  exact ⟨b, e, h1, h2.keep hb⟩
theorem infoItem : (Tryz.prog.info? 136).map (fun i => (i.zero, i.size, i.bytes)) = some (some (.agg #[.int .i64 0, .int .i64 0]), 2, 16) := by kernel_rfl
/-- An append whose run is known, as one step of a region that draws. -/
theorem step_append_run {P : Program} {ops : Array Oper} {o : Oper} {a : Act} {w w' : World} {K : Act → World → Prop} {Q : Exit → Act → World → Prop} {E : Prop} (hg : o.guard = none) (s x : Operand) (t : TypeId) (ho : o.op = .call { callee := .builtin .append, args := #[s, x], argTypes := #[t, t] })
    (v sv v' : Value) (hs : a.eval s = v) (hx : a.eval x = sv) (hr : (Builtin.append_ #[t, t] o.type #[v, sv]).run P w = .ok v' w') (hK : K (a.put o.dst v') w') :
    if Region.wanted o (yielded ops a.tmps) = true then Oper.wp P o a w K Q else E := by
  have hw : Region.wanted o (yielded ops a.tmps) = true := by simp [Region.wanted, hg]
  rw [if_pos hw]
  unfold Oper.wp execOp
  simp only [ho, resolve, invoke, builtin, Sem.run_bind, Sem.run_pure, Result.andThen_ok, List.map_toArray, List.map_cons, List.map_nil, hs, hx, hr]
  exact hK

theorem below_new {w : World} (o : Obj) : Below w.heap.size w (w.alloc o) := (Below.refl _ _).alloc (Nat.le_refl _) _
theorem Keep.andNew {S : Nat → Prop} {w u v : World} (h : Keep (fun b => ¬ S b) w u) (k : Keep (fun b => ¬ (S b ∨ w.heap.size ≤ b)) u v) : Keep (fun b => ¬ S b) w v :=
  ⟨k.os.trans h.os, k.tape.trans h.tape, k.output.trans h.output, Nat.le_trans h.size k.size, fun i hi hp => (k.block i (Nat.lt_of_lt_of_le hi h.size) (fun e => e.elim hp (fun e => by omega))).trans (h.block i hi hp)⟩
/-- What Put answers where it goes up: the heap, of S's blocks and new ones. -/
def PutPost (S : Nat → Prop) (w : World) (p N : Nat) (m : Nat → Option Int) (e : Ending) (w' : World) : Prop :=
  e = .returned (.bool true) ∧ HpAt (fun b => S b ∨ w.heap.size ≤ b) w' p N m ∧ Keep (fun b => ¬ S b) w w'
section
variable {S : Nat → Prop} {w : World} {p : Nat} {R : List It} {P : List Int} {rv pv : Value} {N : Nat} {m : Nat → Option Int}

set_option maxHeartbeats 2000000 in
theorem hput_no (h : HpS S w p R P rv pv) (k c : Int) (hk : ¬ (0 ≤ k ∧ k < P.length)) : Calls Tryz.prog 66 #[hp p, .int .i64 k, .int .i64 c] w fun e w' => e = .returned (.bool false) ∧ w = w' := by
  have H := Lib.hid h
  have HK := Lib.hid (decide_eq_false hk)
  clear h hk
  go_enter Tryz.func66, Tryz.ntmps66
  go_wp2_with fail
  refine (hhas_any H.out k HK.out).mono ?_
  rintro e w' ⟨rfl, rfl⟩
  go_wp2_with fail
  go_ret
  exact ⟨rfl, rfl⟩

set_option maxHeartbeats 4000000 in
set_option maxRecDepth 100000 in
theorem hput_new (h : HpS S w p R P rv pv) (hh : Hpp N R P m) (hN : N ≤ 16384) (k : Nat) (c : Int) (c0 : -9223372036854775808 ≤ c) (c1 : c ≤ 9223372036854775807) (hm : m k = none) (hkN : k < N) (hP : P[k]? = some (-1)) :
    Calls Tryz.prog 66 #[hp p, .int .i64 k, .int .i64 c] w (PutPost S w p N (upd m k (some (hld c)))) := by
  obtain ⟨⟨q, cp, rfl, hcp⟩, q', c', rfl⟩ := h.shape
  obtain ⟨cc0, cc1, -, -⟩ := h.k.o2
  have hlt := lt_of_get hP
  have hki : (k : Int) < (P.length : Int) := by omega
  have hk64 : (k : Int) ≤ 9223372036854775807 := by omega
  obtain ⟨g', rfl, pc, -⟩ := h.pl hP
  have C1 := Lib.hid cc1
  have PC := Lib.hid pc
  have H := Lib.hid h
  have HHAS : Hid (decide ((0 : Int) ≤ k ∧ (k : Int) < P.length) = true) := Lib.hid (by simp; omega)
  have c0' := hld_lo c
  have c1' := hld_hi c
  have HPL := Lib.hid hh.con.pl
  have hrl := Nat.le_trans hh.con.len hN
  have HUP := Lib.hid (hh.new hkN hm c0' c1')
  clear h hh hm hP pc cc0 cc1
  go_enter Tryz.func66, Tryz.ntmps66
  go_wp2_with fail
  refine (hhas_any H.out k HHAS.out).mono ?_
  rintro e w' ⟨rfl, rfl⟩
  go_wp2_with fail
  have hGS : Grows (fun w' => Below w.heap.size w w') := Grows.below w
  refine' wp_thenL _ 13 (fun w' => Below w.heap.size w w') [[], [0], [0, 1], [0, 1, 2], [], [0, 1, 2, 3, 4], [0, 1, 2, 3, 4, 5], [], [], [8], [7, 8, 9], [], [0, 1, 2, 3, 4, 5, 6]] (Fact.lit _ :: Fact.lit _ :: Fact.lit _ :: Fact.lit _ :: Fact.lit _ :: Fact.lit _ :: Fact.lit _ :: Fact.lit _ :: Fact.lit _ :: Fact.lit _ :: Fact.lit _ :: Fact.fresh _ _ :: Fact.lit _ :: []) (by kernel_rfl) rfl (by kernel_rfl) (Below.refl _ _).drew ?seqp3
  case' seqp3 => skip
  iterate 9 ((first | (apply grow_skip; (case hf => rfl); (case hw => rfl)) | (apply grow_lit; (case hf => rfl); (case hw => rfl); (case hrun => (intro w' hS H; clear H; (have y0 := keep hS C1.out); (have y1 := keep hS PC.out); (have hl0 := World.block_lt_of_cell? w' _ y1); clear hS; go_simp; first | done | exact rfl)))); (case hc => (simp only [Act.put, List.setIfInBounds_toArray, List.set_cons_zero, List.set_cons_succ]; first | done | exact rfl)); (try (case hj => rfl)))
  (refine' grow_call (u := .int .i64 (hld c)) rfl Tryz.func61 (by kernel_rfl) rfl hGS rfl ?wt39 ?run39 ?put39 ?next39; (case wt39 => rfl); (case run39 => (intro w' hS H; exact (held_any c w' c0 c1).mono (fun e w2 h => ⟨h.1, h.2 ▸ Below.refl _ _⟩))); (case put39 => (simp only [Act.put, List.setIfInBounds_toArray, List.set_cons_zero, List.set_cons_succ]; first | done | exact rfl)); (case' next39 => skip))
  iterate 1 ((first | (apply grow_skip; (case hf => rfl); (case hw => rfl)) | (apply grow_lit; (case hf => rfl); (case hw => rfl); (case hrun => (intro w' hS H; clear H; (have y0 := keep hS C1.out); (have y1 := keep hS PC.out); (have hl0 := World.block_lt_of_cell? w' _ y1); clear hS; go_simp; first | done | exact rfl)))); (case hc => (simp only [Act.put, List.setIfInBounds_toArray, List.set_cons_zero, List.set_cons_succ]; first | done | exact rfl)); (try (case hj => rfl)))
  (refine' grow_fresh (p := PtrC w #[.int .i64 0, .int .i64 0] 136) (hp := fun v w w' h hb => h.below hb) hGS rfl ?wtp3 ?runp3 ?putp3 ?nextp3; (case wtp3 => rfl); (case runp3 => (intro w' hS H; clear H; refine ⟨.pointer (some ⟨w'.heap.size, 0, none⟩), w'.alloc (.cells #[.int .i64 0, .int .i64 0] 136), ?_, ⟨w'.heap.size, rfl, hS.size, Blk.new _ _ _ _ rfl⟩, ⟨w'.heap.size, rfl, Nat.le_refl _, by simp⟩, below_new _⟩; (clear hS; go_simp))); (case putp3 => (intro v; simp only [Act.put, List.setIfInBounds_toArray, List.set_cons_zero, List.set_cons_succ]; first | done | exact rfl)); (case' nextp3 => intro v11))
  iterate 1 ((first | (apply grow_skip; (case hf => rfl); (case hw => rfl)) | (apply grow_lit; (case hf => rfl); (case hw => rfl); (case hrun => (intro w' hS H; clear H; (have y0 := keep hS C1.out); (have y1 := keep hS PC.out); (have hl0 := World.block_lt_of_cell? w' _ y1); clear hS; go_simp; first | done | exact rfl)))); (case hc => (simp only [Act.put, List.setIfInBounds_toArray, List.set_cons_zero, List.set_cons_succ]; first | done | exact rfl)); (try (case hj => rfl)))
  intro w1 hb hk
  have q11 : PtrC w #[.int .i64 0, .int .i64 0] 136 v11 w1 := hk 11 (by decide)
  obtain ⟨bx, rfl, hbx, kx⟩ := q11
  obtain ⟨m0, m1, f0, f1⟩ := kx.o2
  clear hk hGS
  refine wpAny_ready (rs := [13]) (by kernel_rfl) (by simp) (AllReady.cons rfl (fun K hK => ?_) AllReady.nil)
  go_simp
  refine hK _ _ ?_
  clear hK K
  refine wpAny_done (by kernel_rfl) ?_ _
  clear m0 m1 f0 f1
  obtain ⟨w2, hw2⟩ := named ((w1.setCell ⟨bx, 0, none⟩ (.int .i64 k)).setCell ⟨bx, 1, none⟩ (.int .i64 (hld c)))
  rw [← hw2]
  have KX : Hid (Blk w2 bx #[.int .i64 k, .int .i64 (hld c)] 136) := by rw [hw2]; exact Lib.hid (by have := (kx.set 0 (.int .i64 k)).set 1 (.int .i64 (hld c)); simpa using this)
  have HB2 : Hid (Below w.heap.size w w2) := by rw [hw2]; exact Lib.hid (((hb.setCell hbx _)).setCell hbx _)
  clear hw2 kx hb
  have H2 := Lib.hid (H.out.old HB2.out)
  obtain ⟨cc0, cc1, f0, -⟩ := H2.out.k.o2
  go_wp2_with fail
  obtain ⟨m0, m1, -, -⟩ := KX.out.o2
  obtain ⟨W3, hW3⟩ := named (w2.alloc (.cells #[.int .i64 k, .int .i64 (hld c)] 136)).drew
  have hb3 : Below w2.heap.size w2 W3 := by rw [hW3]; exact ((Below.refl _ _).alloc (Nat.le_refl _) _).drew
  have hnb : Blk W3 w2.heap.size #[.int .i64 k, .int .i64 (hld c)] 136 := by rw [hW3]; exact (Blk.new _ _ _ _ rfl).drew
  have H3 := H2.out.old hb3
  have hsz3 : W3.heap.size = w2.heap.size + 1 := by rw [hW3]; simp
  obtain ⟨i0, hi, hz0, hz1, hz2⟩ := info_parts infoItem
  obtain ⟨v', w4, hr, ho, hg, -, hwh⟩ := run_append_own_at (P := Tryz.prog) W3 0 132 132 136 i0 (.agg #[.int .i64 0, .int .i64 0]) 2 16 Tryz.underlying132 hi hz0 hz1 hz2 rfl (by decide)
    (.slice q R.length cp) R.length (flatI R) H3.r ⟨w2.heap.size, 0, none⟩ 1 1 [.int .i64 k, .int .i64 (hld c)] rfl
    (by
      intro j u hj
      match j, hj with
      | 0, hj => simp at hj; subst hj; exact hnb.cell 0 rfl
      | 1, hj => simp at hj; subst hj; exact hnb.cell 1 rfl
      | j + 2, hj => simp at hj)
    (by intro u hu; simp at hu; rcases hu with rfl | rfl <;> rfl) (by unfold maxLen; omega) (by omega) (Nat.zero_le _)
  have hrlt : ∀ g, (Value.slice q R.length cp).ownBlock = some g → g < w.heap.size := fun g hg => (H.out.r.lt g hg).2
  have hkeep : Keep (fun b => (Value.slice q R.length cp).ownBlock ≠ some b) W3 w4 := ⟨hg.os, hg.tape, hg.output, hg.size, fun k hk hp => hg.block k hk (fun e => hp e.symm)⟩
  have hk4 := hkeep.blk H3.k (own_ne_blk H3.r H3.k (by decide))
  have hl4 := hkeep.own H3.l (fun g hg' e => by
    rcases owns_blk H3.l with ⟨e1, -⟩ | ⟨g2, _, _, e1, hb, _⟩
    · rw [e1] at hg'; cases hg'
    · rw [e1] at hg'
      injection hg' with hg'
      subst hg'
      exact own_ne_blk H3.r hb (by decide) e)
  have hbx4 : Blk w4 bx _ _ := hkeep.blk (KX.out.keep hb3) (fun e => by have := hrlt _ e; omega)
  obtain ⟨q2, c2, rfl⟩ : ∃ q2 c2, v' = .slice q2 (R.length + 1) c2 := by
    rcases owns_blk ho with ⟨e, e0⟩ | ⟨g, c, cur, e, _⟩
    · omega
    · exact ⟨_, _, e⟩
  have h5 : HpS (fun b => S b ∨ w.heap.size ≤ b) (w4.setCell ⟨p, 0, none⟩ (.slice q2 (R.length + 1) c2)) p (R ++ [(k, hld c)]) P (.slice q2 (R.length + 1) c2) (.slice (some ⟨g', 0, none⟩) P.length c') := by
    refine ⟨by simpa using hk4.set 0 (.slice q2 (R.length + 1) c2), Or.inl H3.p, ?_, fun g hg => ?_, own_other hl4 (own_ne_blk hl4 hk4 (by decide)) _ _, fun g hg => Or.inl (H3.lS g hg)⟩
    · rw [List.length_append, flatI_app]
      exact own_other ho (own_ne_blk ho hk4 (by decide)) _ _
    · rcases hwh with e | e
      · rw [e] at hg; exact Or.inl (H3.rS g hg)
      · rw [e] at hg
        injection hg with hg
        have := hb3.size
        have := HB2.out.size
        exact Or.inr (by omega)
  have hkp : Keep (fun b => ¬ S b) w (w4.setCell ⟨p, 0, none⟩ (.slice q2 (R.length + 1) c2)) :=
    (((Keep.of (HB2.out.trans (hb3.mono HB2.out.size))).trans (hkeep.mono fun b hb e => hb (H3.rS b e)))).setCell (fun hn => hn H3.p) _ _
  have hbx5 : Blk (w4.setCell ⟨p, 0, none⟩ (.slice q2 (R.length + 1) c2)) bx #[.int .i64 k, .int .i64 (hld c)] 136 := hbx4.other _ _ (fun e => by have := H.out.k.lt; omega)
  obtain ⟨pc0, -, pf0, -⟩ := hk4.o2
  obtain ⟨w5, hw5⟩ := named (w4.setCell ⟨p, 0, none⟩ (.slice q2 (R.length + 1) c2))
  rw [← hw5] at h5 hkp hbx5
  have H5 := Lib.hid h5
  have HKP := Lib.hid hkp
  have HBX := Lib.hid hbx5
  have HW5 := Lib.hid hw5
  rw [hW3] at hr
  have HR := Lib.hid hr
  have hpz : p < w2.heap.size := H2.out.k.lt
  have hbz : bx < w2.heap.size := KX.out.lt
  have hnpb : p ≠ bx := fun e => by have := H.out.k.lt; omega
  clear hw5 hr ho hg hwh hkeep hk4 hl4 hbx4 h5 hkp hbx5 hb3 hnb H3 hsz3 hW3 hi hz0 hz1 hz2 hrlt
  go_region_law (refine step_append_run rfl _ _ 132 rfl _ _ _ rfl rfl HR.out ?_)
  all_goals
    clear m0 m1
    obtain ⟨m0, m1, -, -⟩ := HBX.out.o2
    clear pc0 pf0 cc0 cc1 f0
    rw [show w4.setCell ⟨p, 0, none⟩ (.slice q2 (R.length + 1) c2) = w5 from HW5.out.symm]
    go_wp2_with fail
    refine (hrise_any H5.out R.length (k, hld c) HUP.out hN).mono ?_
    rintro e w6 ⟨rfl, R6, P6, hs6, hh6, hk6⟩
    have HP : Hid (PutPost S w p N (upd m k (some (hld c))) (.returned (.bool true)) w6) := Lib.hid ⟨rfl, ⟨hN, R6, P6, _, _, hs6, hh6⟩, HKP.out.andNew hk6⟩
    clear hs6 hh6 hk6
    go_wp2_with fail
    go_ret
    exact HP.out

set_option maxHeartbeats 4000000 in
set_option maxRecDepth 100000 in
theorem hput_low (h : HpS S w p R P rv pv) (hh : Hpp N R P m) (hN : N ≤ 16384) (k : Nat) (c d : Int) (c0 : -9223372036854775808 ≤ c) (c1 : c ≤ 9223372036854775807) (hm : m k = some d) (hkN : k < N) (hlo : hld c < d) :
    Calls Tryz.prog 66 #[hp p, .int .i64 k, .int .i64 c] w (PutPost S w p N (upd m k (some (hld c)))) := by
  obtain ⟨i, hP, hRi, hup⟩ := hh.low hkN hm hlo (hld_lo c)
  obtain ⟨⟨q, cp, rfl, hcp⟩, q', c', rfl⟩ := h.shape
  obtain ⟨cc0, cc1, -, -⟩ := h.k.o2
  have hlt := lt_of_get hP
  have hki : (k : Int) < (P.length : Int) := by omega
  have hk64 : (k : Int) ≤ 9223372036854775807 := by omega
  obtain ⟨g', rfl, pc, -⟩ := h.pl hP
  have C1 := Lib.hid cc1
  have PC := Lib.hid pc
  have H := Lib.hid h
  have HHAS : Hid (decide ((0 : Int) ≤ k ∧ (k : Int) < P.length) = true) := Lib.hid (by simp; omega)
  have c0' := hld_lo c
  have c1' := hld_hi c
  obtain ⟨gr, rfl, x0, x1, -⟩ := h.at hRi
  simp only [] at x0 x1
  have hil := lt_of_get hRi
  have hii : (i : Int) < (R.length : Int) := by omega
  have hin : ((i : Int) == -1) = false := by simp
  have hrl := Nat.le_trans hh.con.len hN
  have hi64 : (i : Int) ≤ 9223372036854775807 := by omega
  have X0 := Lib.hid x0
  have X1 := Lib.hid x1
  have HUP := Lib.hid hup
  have hdle : decide (d ≤ hld c) = false := by simp; omega
  clear h hh hm hP hRi hup pc cc0 cc1 x0 x1
  go_enter Tryz.func66, Tryz.ntmps66
  go_wp2_with fail
  refine (hhas_any H.out k HHAS.out).mono ?_
  rintro e w' ⟨rfl, rfl⟩
  go_wp2_with fail
  have hGS : Grows (fun w' => Below w.heap.size w w') := Grows.below w
  refine' wp_thenL _ 13 (fun w' => Below w.heap.size w w') [[], [0], [0, 1], [0, 1, 2], [], [0, 1, 2, 3, 4], [0, 1, 2, 3, 4, 5], [], [], [8], [7, 8, 9], [], [0, 1, 2, 3, 4, 5, 6]] (Fact.lit _ :: Fact.lit _ :: Fact.lit _ :: Fact.lit _ :: Fact.lit _ :: Fact.lit _ :: Fact.lit _ :: Fact.lit _ :: Fact.lit _ :: Fact.lit _ :: Fact.lit _ :: Fact.fresh _ _ :: Fact.lit _ :: []) (by kernel_rfl) rfl (by kernel_rfl) (Below.refl _ _).drew ?seqp3
  case' seqp3 => skip
  iterate 9 ((first | (apply grow_skip; (case hf => rfl); (case hw => rfl)) | (apply grow_lit; (case hf => rfl); (case hw => rfl); (case hrun => (intro w' hS H; clear H; (have y0 := keep hS C1.out); (have y1 := keep hS PC.out); (have hl0 := World.block_lt_of_cell? w' _ y1); clear hS; go_simp; first | done | exact rfl)))); (case hc => (simp only [Act.put, List.setIfInBounds_toArray, List.set_cons_zero, List.set_cons_succ]; first | done | exact rfl)); (try (case hj => rfl)))
  (refine' grow_call (u := .int .i64 (hld c)) rfl Tryz.func61 (by kernel_rfl) rfl hGS rfl ?wt40 ?run40 ?put40 ?next40; (case wt40 => rfl); (case run40 => (intro w' hS H; exact (held_any c w' c0 c1).mono (fun e w2 h => ⟨h.1, h.2 ▸ Below.refl _ _⟩))); (case put40 => (simp only [Act.put, List.setIfInBounds_toArray, List.set_cons_zero, List.set_cons_succ]; first | done | exact rfl)); (case' next40 => skip))
  iterate 1 ((first | (apply grow_skip; (case hf => rfl); (case hw => rfl)) | (apply grow_lit; (case hf => rfl); (case hw => rfl); (case hrun => (intro w' hS H; clear H; (have y0 := keep hS C1.out); (have y1 := keep hS PC.out); (have hl0 := World.block_lt_of_cell? w' _ y1); clear hS; go_simp; first | done | exact rfl)))); (case hc => (simp only [Act.put, List.setIfInBounds_toArray, List.set_cons_zero, List.set_cons_succ]; first | done | exact rfl)); (try (case hj => rfl)))
  (refine' grow_fresh (p := PtrC w #[.int .i64 0, .int .i64 0] 136) (hp := fun v w w' h hb => h.below hb) hGS rfl ?wtp3 ?runp3 ?putp3 ?nextp3; (case wtp3 => rfl); (case runp3 => (intro w' hS H; clear H; refine ⟨.pointer (some ⟨w'.heap.size, 0, none⟩), w'.alloc (.cells #[.int .i64 0, .int .i64 0] 136), ?_, ⟨w'.heap.size, rfl, hS.size, Blk.new _ _ _ _ rfl⟩, ⟨w'.heap.size, rfl, Nat.le_refl _, by simp⟩, below_new _⟩; (clear hS; go_simp))); (case putp3 => (intro v; simp only [Act.put, List.setIfInBounds_toArray, List.set_cons_zero, List.set_cons_succ]; first | done | exact rfl)); (case' nextp3 => intro v11))
  iterate 1 ((first | (apply grow_skip; (case hf => rfl); (case hw => rfl)) | (apply grow_lit; (case hf => rfl); (case hw => rfl); (case hrun => (intro w' hS H; clear H; (have y0 := keep hS C1.out); (have y1 := keep hS PC.out); (have hl0 := World.block_lt_of_cell? w' _ y1); clear hS; go_simp; first | done | exact rfl)))); (case hc => (simp only [Act.put, List.setIfInBounds_toArray, List.set_cons_zero, List.set_cons_succ]; first | done | exact rfl)); (try (case hj => rfl)))
  intro w1 hb hk
  have q11 : PtrC w #[.int .i64 0, .int .i64 0] 136 v11 w1 := hk 11 (by decide)
  obtain ⟨bx, rfl, hbx, kx⟩ := q11
  obtain ⟨m0, m1, f0, f1⟩ := kx.o2
  clear hk hGS
  refine wpAny_ready (rs := [13]) (by kernel_rfl) (by simp) (AllReady.cons rfl (fun K hK => ?_) AllReady.nil)
  go_simp
  refine hK _ _ ?_
  clear hK K
  refine wpAny_done (by kernel_rfl) ?_ _
  clear m0 m1 f0 f1
  obtain ⟨w2, hw2⟩ := named ((w1.setCell ⟨bx, 0, none⟩ (.int .i64 k)).setCell ⟨bx, 1, none⟩ (.int .i64 (hld c)))
  rw [← hw2]
  have KX : Hid (Blk w2 bx #[.int .i64 k, .int .i64 (hld c)] 136) := by rw [hw2]; exact Lib.hid (by have := (kx.set 0 (.int .i64 k)).set 1 (.int .i64 (hld c)); simpa using this)
  have HB2 : Hid (Below w.heap.size w w2) := by rw [hw2]; exact Lib.hid (((hb.setCell hbx _)).setCell hbx _)
  clear hw2 kx hb
  have H2 := Lib.hid (H.out.old HB2.out)
  obtain ⟨cc0, cc1, f0, -⟩ := H2.out.k.o2
  obtain ⟨m0, m1, -, -⟩ := KX.out.o2
  have x0 := keep HB2.out X0.out
  have x1 := keep HB2.out X1.out
  go_wp2_with fail
  go_quiet (fail)
  go_wp2_with fail
  refine (hrise_any (H2.out.old (below_drewN (Below.refl _ _) _)) i (k, hld c) HUP.out hN).mono ?_
  rintro e w6 ⟨rfl, R6, P6, hs6, hh6, hk6⟩
  have HP : Hid (PutPost S w p N (upd m k (some (hld c))) (.returned (.bool true)) w6) := Lib.hid ⟨rfl, ⟨hN, R6, P6, _, _, hs6.mono fun _ _ h => Or.inl h, hh6⟩, (Keep.of (below_drewN HB2.out _)).trans hk6⟩
  clear hs6 hh6 hk6
  go_wp2_with fail
  go_ret
  exact HP.out

set_option maxHeartbeats 4000000 in
set_option maxRecDepth 100000 in
theorem hput_same (h : HpS S w p R P rv pv) (hh : Hpp N R P m) (hN : N ≤ 16384) (k : Nat) (c d : Int) (c0 : -9223372036854775808 ≤ c) (c1 : c ≤ 9223372036854775807) (hm : m k = some d) (hkN : k < N) (hlo : d ≤ hld c) :
    Calls Tryz.prog 66 #[hp p, .int .i64 k, .int .i64 c] w fun e w' => e = .returned (.bool false) ∧ Below w.heap.size w w' := by
  obtain ⟨i, hRi⟩ := hh.con.back k d hm
  obtain ⟨-, hP, -⟩ := hh.con.row i _ hRi
  simp only [] at hP
  obtain ⟨⟨q, cp, rfl, hcp⟩, q', c', rfl⟩ := h.shape
  obtain ⟨cc0, cc1, -, -⟩ := h.k.o2
  have hlt := lt_of_get hP
  have hki : (k : Int) < (P.length : Int) := by omega
  have hk64 : (k : Int) ≤ 9223372036854775807 := by omega
  obtain ⟨g', rfl, pc, -⟩ := h.pl hP
  have C1 := Lib.hid cc1
  have PC := Lib.hid pc
  have H := Lib.hid h
  have HHAS : Hid (decide ((0 : Int) ≤ k ∧ (k : Int) < P.length) = true) := Lib.hid (by simp; omega)
  have c0' := hld_lo c
  have c1' := hld_hi c
  obtain ⟨gr, rfl, x0, x1, -⟩ := h.at hRi
  simp only [] at x0 x1
  have hil := lt_of_get hRi
  have hii : (i : Int) < (R.length : Int) := by omega
  have hin : ((i : Int) == -1) = false := by simp
  have hrl := Nat.le_trans hh.con.len hN
  have hi64 : (i : Int) ≤ 9223372036854775807 := by omega
  have X0 := Lib.hid x0
  have X1 := Lib.hid x1
  have hdle : decide (d ≤ hld c) = true := by simpa using hlo
  clear h hh hm hP hRi pc cc0 cc1 x0 x1
  go_enter Tryz.func66, Tryz.ntmps66
  go_wp2_with fail
  refine (hhas_any H.out k HHAS.out).mono ?_
  rintro e w' ⟨rfl, rfl⟩
  go_wp2_with fail
  have hGS : Grows (fun w' => Below w.heap.size w w') := Grows.below w
  refine' wp_thenL _ 13 (fun w' => Below w.heap.size w w') [[], [0], [0, 1], [0, 1, 2], [], [0, 1, 2, 3, 4], [0, 1, 2, 3, 4, 5], [], [], [8], [7, 8, 9], [], [0, 1, 2, 3, 4, 5, 6]] (Fact.lit _ :: Fact.lit _ :: Fact.lit _ :: Fact.lit _ :: Fact.lit _ :: Fact.lit _ :: Fact.lit _ :: Fact.lit _ :: Fact.lit _ :: Fact.lit _ :: Fact.lit _ :: Fact.fresh _ _ :: Fact.lit _ :: []) (by kernel_rfl) rfl (by kernel_rfl) (Below.refl _ _).drew ?seqp3
  case' seqp3 => skip
  iterate 9 ((first | (apply grow_skip; (case hf => rfl); (case hw => rfl)) | (apply grow_lit; (case hf => rfl); (case hw => rfl); (case hrun => (intro w' hS H; clear H; (have y0 := keep hS C1.out); (have y1 := keep hS PC.out); (have hl0 := World.block_lt_of_cell? w' _ y1); clear hS; go_simp; first | done | exact rfl)))); (case hc => (simp only [Act.put, List.setIfInBounds_toArray, List.set_cons_zero, List.set_cons_succ]; first | done | exact rfl)); (try (case hj => rfl)))
  (refine' grow_call (u := .int .i64 (hld c)) rfl Tryz.func61 (by kernel_rfl) rfl hGS rfl ?wt41 ?run41 ?put41 ?next41; (case wt41 => rfl); (case run41 => (intro w' hS H; exact (held_any c w' c0 c1).mono (fun e w2 h => ⟨h.1, h.2 ▸ Below.refl _ _⟩))); (case put41 => (simp only [Act.put, List.setIfInBounds_toArray, List.set_cons_zero, List.set_cons_succ]; first | done | exact rfl)); (case' next41 => skip))
  iterate 1 ((first | (apply grow_skip; (case hf => rfl); (case hw => rfl)) | (apply grow_lit; (case hf => rfl); (case hw => rfl); (case hrun => (intro w' hS H; clear H; (have y0 := keep hS C1.out); (have y1 := keep hS PC.out); (have hl0 := World.block_lt_of_cell? w' _ y1); clear hS; go_simp; first | done | exact rfl)))); (case hc => (simp only [Act.put, List.setIfInBounds_toArray, List.set_cons_zero, List.set_cons_succ]; first | done | exact rfl)); (try (case hj => rfl)))
  (refine' grow_fresh (p := PtrC w #[.int .i64 0, .int .i64 0] 136) (hp := fun v w w' h hb => h.below hb) hGS rfl ?wtp3 ?runp3 ?putp3 ?nextp3; (case wtp3 => rfl); (case runp3 => (intro w' hS H; clear H; refine ⟨.pointer (some ⟨w'.heap.size, 0, none⟩), w'.alloc (.cells #[.int .i64 0, .int .i64 0] 136), ?_, ⟨w'.heap.size, rfl, hS.size, Blk.new _ _ _ _ rfl⟩, ⟨w'.heap.size, rfl, Nat.le_refl _, by simp⟩, below_new _⟩; (clear hS; go_simp))); (case putp3 => (intro v; simp only [Act.put, List.setIfInBounds_toArray, List.set_cons_zero, List.set_cons_succ]; first | done | exact rfl)); (case' nextp3 => intro v11))
  iterate 1 ((first | (apply grow_skip; (case hf => rfl); (case hw => rfl)) | (apply grow_lit; (case hf => rfl); (case hw => rfl); (case hrun => (intro w' hS H; clear H; (have y0 := keep hS C1.out); (have y1 := keep hS PC.out); (have hl0 := World.block_lt_of_cell? w' _ y1); clear hS; go_simp; first | done | exact rfl)))); (case hc => (simp only [Act.put, List.setIfInBounds_toArray, List.set_cons_zero, List.set_cons_succ]; first | done | exact rfl)); (try (case hj => rfl)))
  intro w1 hb hk
  have q11 : PtrC w #[.int .i64 0, .int .i64 0] 136 v11 w1 := hk 11 (by decide)
  obtain ⟨bx, rfl, hbx, kx⟩ := q11
  obtain ⟨m0, m1, f0, f1⟩ := kx.o2
  clear hk hGS
  refine wpAny_ready (rs := [13]) (by kernel_rfl) (by simp) (AllReady.cons rfl (fun K hK => ?_) AllReady.nil)
  go_simp
  refine hK _ _ ?_
  clear hK K
  refine wpAny_done (by kernel_rfl) ?_ _
  clear m0 m1 f0 f1
  obtain ⟨w2, hw2⟩ := named ((w1.setCell ⟨bx, 0, none⟩ (.int .i64 k)).setCell ⟨bx, 1, none⟩ (.int .i64 (hld c)))
  rw [← hw2]
  have KX : Hid (Blk w2 bx #[.int .i64 k, .int .i64 (hld c)] 136) := by rw [hw2]; exact Lib.hid (by have := (kx.set 0 (.int .i64 k)).set 1 (.int .i64 (hld c)); simpa using this)
  have HB2 : Hid (Below w.heap.size w w2) := by rw [hw2]; exact Lib.hid (((hb.setCell hbx _)).setCell hbx _)
  clear hw2 kx hb
  have H2 := Lib.hid (H.out.old HB2.out)
  obtain ⟨cc0, cc1, f0, -⟩ := H2.out.k.o2
  obtain ⟨m0, m1, -, -⟩ := KX.out.o2
  have x0 := keep HB2.out X0.out
  have x1 := keep HB2.out X1.out
  go_wp2_with fail
  go_quiet (fail)
  go_wp2_with fail
  go_ret
  exact ⟨rfl, below_drewN HB2.out _⟩
end

end Go.Proofs.YtgihaakgadmidaaGreat.HP

/-
  The program's heap: Cost, Clear, Pop.
-/
namespace Go.Proofs.YtgihaakgadmidaaGreat.HP
open Go.RowKit

section
variable {S : Nat → Prop} {w : World} {p : Nat} {R : List It} {P : List Int} {rv pv : Value} {N : Nat} {m : Nat → Option Int}

set_option maxHeartbeats 2000000 in
theorem hpop_no (h : HpS S w p [] P rv pv) : Calls Tryz.prog 67 #[hp p] w fun e w' => e = .returned (.tuple #[.int .i64 0, .int .i64 0, .bool false]) ∧ w = w' := by
  obtain ⟨⟨q, cp, rfl, hcp⟩, q', c', rfl⟩ := h.shape
  obtain ⟨cc0, cc1, -, -⟩ := h.k.o2
  clear h hcp
  go_enter Tryz.func67, Tryz.ntmps67
  go_wp2_with fail
  go_ret3
  exact ⟨rfl, rfl⟩

/-- What Pop answers where one is in. -/
def PopPost (S : Nat → Prop) (w : World) (p N : Nat) (m : Nat → Option Int) (x : It) (e : Ending) (w' : World) : Prop :=
  e = .returned (.tuple #[.int .i64 x.1, .int .i64 x.2, .bool true]) ∧ ∃ R P rv pv, HpS S w' p R P rv pv ∧ Hpp N R P m ∧ Keep (fun b => ¬ S b) w w'

set_option maxHeartbeats 4000000 in
set_option maxRecDepth 100000 in
theorem hpop0 (hS : ∀ b, S b → b < w.heap.size) (h : HpS S w p R P rv pv) (hh : Hpp N R P m) (hN : N ≤ 16384) (x : It) (hx : R[0]? = some x) : Calls Tryz.prog 67 #[hp p] w (PopPost S w p N (upd m x.1 none) x) := by
  obtain ⟨⟨q, cp, rfl, hcp⟩, q', c', rfl⟩ := h.shape
  obtain ⟨n, hn⟩ : ∃ n, R.length = n + 1 := ⟨R.length - 1, by have := lt_of_get hx; omega⟩
  have hrl := Nat.le_trans hh.con.len hN
  obtain ⟨g, rfl, x0, x1, hg⟩ := h.at hx
  obtain ⟨l, hl⟩ : ∃ l, R[n]? = some l := ⟨_, List.getElem?_eq_getElem (by omega)⟩
  obtain ⟨g2, e2, y0, y1, -⟩ := h.at hl
  cases e2
  obtain ⟨cc0, cc1, f0, f1⟩ := h.k.o2
  have HSS := Lib.hid hS
  have HH := Lib.hid h
  have HPP := Lib.hid hh
  have HX := Lib.hid hx
  have HL := Lib.hid hl
  have HN := Lib.hid hn
  have hne : ((R.length : Int) == 0) = false := beq_eq_false_iff_ne.2 (by omega)
  have hpos : 0 < R.length := by omega
  have hpz : p < w.heap.size := h.k.lt
  have hsub : ((R.length : Int) - 1) = (n : Int) := by omega
  have hni : (n : Int) < (R.length : Int) := by omega
  clear hS h hh hx hl hn
  obtain ⟨hs1, hk1⟩ := HH.out.setRow (R' := R.take n) (rv' := .slice (some ⟨g, 0, none⟩) n cp) (by have := own_cut HH.out.r (show n ≤ R.length from by omega); rw [List.length_take, show min n R.length = n from by omega]; exact this) (fun g' hg => HH.out.rS g' hg)
  obtain ⟨ws, hws⟩ := named (w.setCell ⟨p, 0, none⟩ (.slice (some ⟨g, 0, none⟩) n cp))
  have hwz : ws.heap.size = w.heap.size := by rw [hws]; simp [World.setCell]
  rw [← hws] at hs1 hk1
  obtain ⟨W2, hW2⟩ := named ((ws.alloc (.cells #[.int .i64 x.1, .int .i64 x.2] 136)).alloc (.cells #[.int .i64 l.1, .int .i64 l.2] 136)).drew
  have hb2 : Below ws.heap.size ws W2 := by rw [hW2]; exact (((Below.refl _ _).alloc (Nat.le_refl _) _).alloc (by simp) _).drew
  have hx2 : Blk W2 w.heap.size #[.int .i64 x.1, .int .i64 x.2] 136 := by rw [hW2]; exact ((Blk.new _ _ _ _ hwz).old _).drew
  have hl2 : Blk W2 (w.heap.size + 1) #[.int .i64 l.1, .int .i64 l.2] 136 := by rw [hW2]; exact (Blk.new _ _ _ _ (by simp [hwz])).drew
  have h2 := hs1.old hb2
  have hkp2 := hk1.trans (Keep.of hb2)
  have hxN := (HPP.out.con.row 0 x HX.out).1
  have HPL : Hid (P.length = N) := Lib.hid HPP.out.con.pl
  have hxP : (x.1 : Int) < (P.length : Int) := by rw [HPL.out]; omega
  obtain ⟨gp, rfl, hgp, ⟨v0, a0⟩, fp, hs3, hk3⟩ := h2.setP (k := x.1) (by rw [HPL.out]; exact hxN) (-1)
  have hgb : gp ≠ w.heap.size := fun e => by
    have := (HH.out.l.lt gp rfl).2
    omega
  have hgb1 : gp ≠ w.heap.size + 1 := fun e => by
    have := (HH.out.l.lt gp rfl).2
    omega
  obtain ⟨W3, hW3⟩ := named (W2.setCell ⟨gp, x.1, none⟩ (.int .i64 (-1))).drew
  have HX3 : Hid (Blk W3 w.heap.size #[.int .i64 x.1, .int .i64 x.2] 136) := by rw [hW3]; exact Lib.hid (hx2.other _ _ (fun e => hgb e.symm)).drew
  have HL3 : Hid (Blk W3 (w.heap.size + 1) #[.int .i64 l.1, .int .i64 l.2] 136) := by rw [hW3]; exact Lib.hid (hl2.other _ _ (fun e => hgb1 e.symm)).drew
  have HS3 : Hid (HpS S W3 p (R.take n) (P.set x.1 (-1)) (.slice (some ⟨g, 0, none⟩) n cp) (.slice (some ⟨gp, 0, none⟩) P.length c')) := by rw [hW3]; exact Lib.hid hs3.drew
  have HK3 : Hid (Keep (fun b => ¬ S b) w W3) := by rw [hW3]; exact Lib.hid (hkp2.trans hk3).drew
  obtain ⟨b0, b1, -, -⟩ := hx2.o2
  obtain ⟨d0, d1, -, -⟩ := h2.k.o2
  have HW2 := Lib.hid (show (((w.setCell ⟨p, 0, none⟩ (.slice (some ⟨g, 0, none⟩) n cp)).alloc (.cells #[.int .i64 x.1, .int .i64 x.2] 136)).alloc (.cells #[.int .i64 l.1, .int .i64 l.2] 136)).drew = W2 from by rw [hW2, hws])
  have HW3 := Lib.hid hW3.symm
  have hnS : ¬ S w.heap.size := nS_of HSS.out
  have hnS1 : ¬ S (w.heap.size + 1) := fun h => by have := HSS.out _ h; omega
  clear hs1 hk1 hws hwz hW2 hb2 hx2 hl2 h2 hkp2 hs3 hk3 hW3
  go_enter Tryz.func67, Tryz.ntmps67
  go_wp2_with fail
  go_region
  go_wp2_with fail
  rw [HW2.out]
  clear cc0 cc1 f0 f1 x0 x1 y0 y1 HW2
  go_region
  rw [HW3.out]
  clear b0 b1 d0 d1 a0 fp HW3
  obtain ⟨b0, b1, -, -⟩ := HX3.out.o2
  by_cases hn0 : n = 0
  · have dn : decide (0 < n) = false := by simp; exact hn0
    have hT : R.take n = [] := by rw [hn0]; rfl
    have HS4 := HS3.out
    rw [hT] at HS4
    have HPO : Hid (∀ k, PopPost S w p N (upd m x.1 none) x (.returned (.tuple #[.int .i64 x.1, .int .i64 x.2, .bool true])) (W3.drewN k)) := Lib.hid fun k => ⟨rfl, _, _, _, _, HS4.old (below_drewN (Below.refl _ _) _), HPP.out.pop1 HX.out (by rw [HN.out, hn0]), HK3.out.trans (Keep.of (below_drewN (Below.refl _ _) _))⟩
    clear HS4 hT hn0
    go_wp2_with fail
    go_quiet (fail)
    go_wp2_with fail
    go_ret3
    exact HPO.out _
  · have dn : decide (0 < n) = true := by simp; omega
    obtain ⟨l0, l1, -, -⟩ := HL3.out.o2
    have HD := Lib.hid (HPP.out.pop HX.out HN.out (by omega) HL.out)
    clear hn0
    go_wp2_with fail
    refine (hsink_any HS3.out 0 l HD.out hN).mono ?_
    rintro e w5 ⟨rfl, R6, P6, hs6, hh6, hk6⟩
    obtain ⟨b2, b3, -, -⟩ := (hk6.blk HX3.out hnS).o2
    have HPO : Hid (∀ k, PopPost S w p N (upd m x.1 none) x (.returned (.tuple #[.int .i64 x.1, .int .i64 x.2, .bool true])) (w5.drewN k)) := Lib.hid fun k => ⟨rfl, _, _, _, _, hs6.old (below_drewN (Below.refl _ _) _), hh6, HK3.out.trans (hk6.trans (Keep.of (below_drewN (Below.refl _ _) _)))⟩
    clear hs6 hh6 hk6 b0 b1 l0 l1
    go_wp2_with fail
    go_quiet (fail)
    go_wp2_with fail
    go_ret3
    exact HPO.out _
end

end Go.Proofs.YtgihaakgadmidaaGreat.HP

/-
  One number, many times over; the program's New.
-/
namespace Go.Proofs.YtgihaakgadmidaaGreat.HP
open Go.RowKit

theorem infoInt : (Tryz.prog.info? 3).map (fun i => (i.zero, i.size, i.bytes)) = some (some (.int .i64 0), 1, 8) := by kernel_rfl
theorem infoInt1 : (Tryz.prog.info? 3).map (·.size) = some 1 := by kernel_rfl
theorem mul1 (n : Nat) (hn : n ≤ 16384) (w : World) : Calls Tryz.prog 87 #[.int .u64 1, .int .u64 n] w fun e w' => e = .returned (.tuple #[.int .u64 0, .int .u64 n]) ∧ w = w' := by
  refine (Tryz.bits_Mul 1 n (by decide) (by omega) w).mono ?_
  rintro e w' ⟨rfl, rfl⟩
  have h1 : (1 * n / 18446744073709551616 : Nat) = 0 := by omega
  have h2 : (1 * n % 18446744073709551616 : Nat) = n := by omega
  rw [h1, h2]
  exact ⟨rfl, rfl⟩
def repL (j n : Nat) (a z : Value) : List Value := List.replicate j a ++ List.replicate (n - j) z
theorem repL_len {j n : Nat} (h : j ≤ n) (a z : Value) : (repL j n a z).length = n := by unfold repL; simp; omega
theorem repL_splice {j n m : Nat} (a z : Value) (h : j + m ≤ n) : splice (repL j n a z) j (List.replicate m a) = repL (j + m) n a z := by
  unfold splice repL
  rw [List.take_left' (by simp), List.drop_append]
  simp only [List.length_replicate, List.drop_replicate, show j - (j + m) = 0 from by omega, show n - j - (j + m - j) = n - (j + m) from by omega, List.replicate_zero, List.nil_append]
  rw [← List.append_assoc, List.replicate_append_replicate]
theorem repL_get {j n i : Nat} (a z : Value) (h : i < j) : (repL j n a z)[i]? = some a := by
  unfold repL
  rw [List.getElem?_append_left (by simpa using h), List.getElem?_replicate, if_pos h]
theorem made1 (z : Value) (n : Nat) : madeCells #[z] n = (List.replicate n z).toArray := by
  apply Array.ext
  · simp [size_madeCells]
  · intro i h1 h2
    simp [madeCells, Nat.mod_one]
/-- The run of make for rows of one cell an element. -/
theorem make1 (w : World) (t e : TypeId) (z : Value) (by' : Nat) (hc : z.cells = #[z]) (ht : Tryz.prog.underlying t = some (.slice e)) (hinf : (Tryz.prog.info? e).map (fun i => (i.zero, i.size, i.bytes)) = some (some z, 1, by')) (n : Nat) (hn : n ≤ 16384) (hb : by' ≤ 8) :
    (Instr.makeSlice t (.int .i64 (n : Int)) (.int .i64 (n : Int))).run Tryz.prog w = .ok (.slice (some ⟨w.heap.size, 0, none⟩) n n) (w.alloc (.cells (List.replicate n z).toArray e)) := by
  obtain ⟨i0, hi, hz0, hz1, hz2⟩ := info_parts hinf
  have hbn : (i0.bytes : Int) * (n : Int) ≤ 281474976710656 := by
    have : i0.bytes * n ≤ 8 * 16384 := Nat.mul_le_mul (by omega) hn
    have h2 : ((i0.bytes * n : Nat) : Int) ≤ ((8 * 16384 : Nat) : Int) := by exact_mod_cast this
    rw [Int.natCast_mul] at h2
    omega
  have := run_make (P := Tryz.prog) w t e i0 z ht hi hz0 .i64 .i64 n n (by omega) (Int.le_refl _) hbn (by omega)
  rw [hz1, hc, Nat.mul_one, Int.toNat_natCast, made1] at this
  exact this
theorem copy1 {w : World} {b M : Nat} {a : Value} (hc : w.cell? ⟨b, 0, none⟩ = some a) (hM : M ≤ 1) {j : Nat} {v : Value} (hj : (List.replicate M a)[j]? = some v) : w.cell? ((⟨b, 0, none⟩ : Addr).add j) = some v := by
  rw [List.getElem?_replicate] at hj
  split at hj
  · injection hj with hj
    subst hj
    have : j = 0 := by omega
    subst this
    exact hc
  · cases hj
/-- The copies at a round's head. -/
def RepRel (w : World) (n : Nat) (v : Value) (wr : World) : Prop :=
  ∃ j : Nat, v = .int .i64 j ∧ j ≤ n ∧ (0 < n → 0 < j) ∧ wr.heap[w.heap.size]? = some (.cells (repL j n (.int .i64 (-1)) (.int .i64 0)).toArray 3 (0, 0)) ∧ Below w.heap.size w wr
def RepPost (w : World) (n : Nat) (e : Ending) (w' : World) : Prop :=
  e = .returned (.slice (some ⟨w.heap.size, 0, none⟩) n n) ∧ Blk w' w.heap.size (List.replicate n (Value.int .i64 (-1))).toArray 3 ∧ Below w.heap.size w w'

/-- The row, so far. -/
def RepA (w : World) (n j : Nat) (wr : World) : Prop := wr.heap[w.heap.size]? = some (.cells (repL j n (.int .i64 (-1)) (.int .i64 0)).toArray 3 (0, 0)) ∧ Below w.heap.size w wr
theorem RepA.copy {w wr : World} {n j m : Nat} (h : RepA w n j wr) (hm : m = Nat.min j (n - j)) (hjm : j + m ≤ n) :
    ∃ w9, (Builtin.copy_ #[43, 43] 3 #[.slice (some ⟨w.heap.size, j, none⟩) (n - j) (n - j), .slice (some ⟨w.heap.size, 0, none⟩) j n]).run Tryz.prog wr = .ok (.int .i64 m) w9 ∧ RepA w n (j + m) w9 ∧ wr.heap.size ≤ w9.heap.size := by
  obtain ⟨hg, hb⟩ := h
  have hrun := run_copy_row (P := Tryz.prog) wr 43 43 3 3 w.heap.size j (n - j) (n - j) ⟨w.heap.size, 0, none⟩ j n _ 3 (List.replicate m (.int .i64 (-1))) Tryz.underlying43 infoInt1 hg (by rw [List.length_replicate]; exact hm)
    (fun i v hi => by
      rw [List.getElem?_replicate] at hi
      split at hi
      · injection hi with hi
        subst hi
        have hij : i < j := by have h9 : Nat.min j (n - j) ≤ j := Nat.min_le_left _ _; omega
        have hadd : (⟨w.heap.size, 0, none⟩ : Addr).add i = ⟨w.heap.size, i, none⟩ := by unfold Addr.add; split <;> simp_all
        rw [hadd, cell_of_row wr w.heap.size i _ _ _ hg]
        simpa using repL_get (.int .i64 (-1)) (.int .i64 0) hij
      · cases hi)
    (by rw [List.length_replicate]; simp only [List.size_toArray]; rw [repL_len (by omega)]; exact hjm) (fun v hv => by rw [List.eq_of_mem_replicate hv]; rfl)
  rw [List.length_replicate] at hrun
  refine ⟨_, hrun, ⟨?_, below_setRow hb (Nat.le_refl _) _⟩, by simp [World.setRow]⟩
  have := setRow_heap wr w.heap.size (repL j n (.int .i64 (-1)) (.int .i64 0)).toArray ((repL j n (.int .i64 (-1)) (.int .i64 0)).take j ++ (List.replicate m (Value.int .i64 (-1)) ++ (repL j n (.int .i64 (-1)) (.int .i64 0)).drop (j + m))).toArray 3 (0, 0) hg
  have e := repL_splice (j := j) (n := n) (m := m) (.int .i64 (-1)) (.int .i64 0) hjm
  unfold splice at e
  rw [List.length_replicate] at e
  rw [e] at this
  simpa [e] using this

set_option maxHeartbeats 4000000 in
set_option maxRecDepth 100000 in
theorem hrepeat (n : Nat) (hn : n ≤ 16384) (b : Nat) (w : World) (hb : Blk w b #[.int .i64 (-1)] 3) : Calls Tryz.prog 64 #[.slice (some ⟨b, 0, none⟩) 1 1, .int .i64 n] w (RepPost w n) := by
  obtain ⟨c0, f0⟩ := hb.o1
  have hblt := hb.lt
  have hni : (n : Int) ≤ 16384 := by omega
  have hn0 : (0 : Int) ≤ n := by omega
  have HB := Lib.hid hb
  have hmk := make1 w 43 3 (.int .i64 0) 8 rfl Tryz.underlying43 infoInt n hn (by decide)
  clear hb
  obtain ⟨M, hM1, hM2⟩ : ∃ M : Nat, M = Nat.min 1 n ∧ M ≤ n := ⟨_, rfl, Nat.min_le_right _ _⟩
  have hM3 : 0 < n → 0 < M := fun h => by rw [hM1]; exact Nat.lt_min.2 ⟨by omega, h⟩
  have hM4 : M ≤ 1 := by rw [hM1]; exact Nat.min_le_left _ _
  have HM1 := Lib.hid hM1
  have HM3 := Lib.hid hM3
  clear hM1 hM3
  obtain ⟨w1, hw1⟩ := named (w.alloc (.cells (List.replicate n (.int .i64 0)).toArray 3))
  have hb1 : Below w.heap.size w w1 := by rw [hw1]; exact below_new _
  have hg1 : w1.heap[w.heap.size]? = some (.cells (repL 0 n (.int .i64 (-1)) (.int .i64 0)).toArray 3 (0, 0)) := by rw [hw1]; simpa [repL] using heap_alloc_new w (.cells (List.replicate n (.int .i64 0)).toArray 3)
  have hc1 := keep hb1 c0
  have HB1 := Lib.hid hb1
  have HG1 := Lib.hid hg1
  have HC1 := Lib.hid hc1
  rw [← hw1] at hmk
  clear hb1 hg1 hc1 hw1
  go_enter Tryz.func64, Tryz.ntmps64
  go_wp2_with fail
  refine (mul1 n hn _).mono ?_
  rintro e w' ⟨rfl, rfl⟩
  go_wp2_with (refine wpList_copy_splice rfl (.tmp 31) (.tmp 32) 43 43 rfl 3 Tryz.underlying43 infoInt1 (some ⟨w.heap.size, 0, none⟩) (some ⟨b, 0, none⟩) n n 1 1 rfl rfl w.heap.size 0 (repL 0 n (.int .i64 (-1)) (.int .i64 0)) 3 HG1.out (List.replicate M (.int .i64 (-1))) (by rw [List.length_replicate]; exact HM1.out) (fun _ => ⟨rfl, _, rfl, fun j v hj => copy1 HC1.out hM4 hj⟩) (by rw [List.length_replicate, repL_len (Nat.zero_le _)]; omega) (fun v hv => by rw [List.eq_of_mem_replicate hv]; rfl) w.heap.size w HB1.out (Nat.le_refl _) ?_; intro w2 hg2 hb2)
  have HR2 : Hid (RepRel w n (.int .i64 M) w2) := Lib.hid ⟨M, rfl, hM2, HM3.out, by have := hg2.out; rw [repL_splice _ _ (by omega), Nat.zero_add] at this; exact this, hb2⟩
  clear hg2 hb2 HM1 HM3 hM4
  go_loopw [8] (fun v wr => RepRel w n v wr) (fun v _ => n - (intOf v).toNat)
  case atStart => exact HR2.out
  case round =>
    obtain ⟨j, rfl, hj, hj0, hg, hb⟩ := hrel
    clear HR2
    obtain ⟨wo, rfl⟩ : ∃ wo : World, wo = wr := ⟨_, rfl⟩
    by_cases hlt : j < n
    · have hjp := hj0 (by omega)
      obtain ⟨m, hm1, hm2, hm3⟩ : ∃ m : Nat, m = Nat.min j (n - j) ∧ j + m ≤ n ∧ 0 < m := ⟨_, rfl, by have h9 : Nat.min j (n - j) ≤ n - j := Nat.min_le_right _ _; omega, Nat.lt_min.2 ⟨hjp, by omega⟩⟩
      have HG := Lib.hid hg
      have HB := Lib.hid hb
      have HM := Lib.hid hm1
      have hs1 : IntKind.i64.wrap ((j : Int) + (m : Int)) = ((j + m : Nat) : Int) := by rw [IntWalk.i64_in _ (by omega)]; omega
      have hne : ¬ n = j := by omega
      have hjn : (j : Int) ≤ (n : Int) := by omega
      clear hg hb hm1 hj0
      go_wp2_with fail
      have A0 := Lib.hid (show RepA w n j wo.drew from ⟨HG.out, HB.out.drew⟩)
      refine' GG.wp_thenL _ 9 (GG.OneW 7 (RepA w n j) (RepA w n (j + m))) [[], [], [], [1, 2], [], [], [4, 5], [1, 2, 3, 4, 5, 6], [0, 1, 2, 3, 4, 5, 6, 7]] (GG.Fact.lit (Rl := GG.RlW) _ :: GG.Fact.lit (Rl := GG.RlW) _ :: GG.Fact.lit (Rl := GG.RlW) _ :: GG.Fact.lit (Rl := GG.RlW) _ :: GG.Fact.lit (Rl := GG.RlW) _ :: GG.Fact.lit (Rl := GG.RlW) _ :: GG.Fact.lit (Rl := GG.RlW) _ :: GG.Fact.lit (Rl := GG.RlW) _ :: GG.Fact.lit (Rl := GG.RlW) _ :: []) (by kernel_rfl) rfl (by kernel_rfl) (()) (GG.OneW.start A0.out) ?seqrp
      case' seqrp => skip
      (refine' GG.grow_lit (GG.OneW.still (by decide)) rfl ?wtrp0 ?runrp0 ?putrp0 ?nextrp0; (case wtrp0 => rfl); (case runrp0 => (intro w' hS; (obtain ⟨dn, s, hS⟩ := hS); clear hS; go_simp; first | done | exact rfl)); (case putrp0 => (first | (simp only [Act.put, List.setIfInBounds_toArray, List.set_cons_zero, List.set_cons_succ]; first | done | exact rfl) | rfl)); (case' nextrp0 => skip))
      (refine' GG.grow_lit (GG.OneW.still (by decide)) rfl ?wtrp1 ?runrp1 ?putrp1 ?nextrp1; (case wtrp1 => rfl); (case runrp1 => (intro w' hS; (obtain ⟨dn, s, hS⟩ := hS); clear hS; go_simp; first | done | exact rfl)); (case putrp1 => (first | (simp only [Act.put, List.setIfInBounds_toArray, List.set_cons_zero, List.set_cons_succ]; first | done | exact rfl) | rfl)); (case' nextrp1 => skip))
      (refine' GG.grow_lit (GG.OneW.still (by decide)) rfl ?wtrp2 ?runrp2 ?putrp2 ?nextrp2; (case wtrp2 => rfl); (case runrp2 => (intro w' hS; (obtain ⟨dn, s, hS⟩ := hS); clear hS; go_simp; first | done | exact rfl)); (case putrp2 => (first | (simp only [Act.put, List.setIfInBounds_toArray, List.set_cons_zero, List.set_cons_succ]; first | done | exact rfl) | rfl)); (case' nextrp2 => skip))
      (refine' GG.grow_lit (GG.OneW.still (by decide)) rfl ?wtrp3 ?runrp3 ?putrp3 ?nextrp3; (case wtrp3 => rfl); (case runrp3 => (intro w' hS; (obtain ⟨dn, s, hS⟩ := hS); clear hS; go_simp; first | done | exact rfl)); (case putrp3 => (first | (simp only [Act.put, List.setIfInBounds_toArray, List.set_cons_zero, List.set_cons_succ]; first | done | exact rfl) | rfl)); (case' nextrp3 => skip))
      (refine' GG.grow_lit (GG.OneW.still (by decide)) rfl ?wtrp4 ?runrp4 ?putrp4 ?nextrp4; (case wtrp4 => rfl); (case runrp4 => (intro w' hS; (obtain ⟨dn, s, hS⟩ := hS); clear hS; go_simp; first | done | exact rfl)); (case putrp4 => (first | (simp only [Act.put, List.setIfInBounds_toArray, List.set_cons_zero, List.set_cons_succ]; first | done | exact rfl) | rfl)); (case' nextrp4 => skip))
      (refine' GG.grow_lit (GG.OneW.still (by decide)) rfl ?wtrp5 ?runrp5 ?putrp5 ?nextrp5; (case wtrp5 => rfl); (case runrp5 => (intro w' hS; (obtain ⟨dn, s, hS⟩ := hS); clear hS; go_simp; first | done | exact rfl)); (case putrp5 => (first | (simp only [Act.put, List.setIfInBounds_toArray, List.set_cons_zero, List.set_cons_succ]; first | done | exact rfl) | rfl)); (case' nextrp5 => skip))
      (refine' GG.grow_lit (GG.OneW.still (by decide)) rfl ?wtrp6 ?runrp6 ?putrp6 ?nextrp6; (case wtrp6 => rfl); (case runrp6 => (intro w' hS; (obtain ⟨dn, s, hS⟩ := hS); clear hS; go_simp; first | done | exact rfl)); (case putrp6 => (first | (simp only [Act.put, List.setIfInBounds_toArray, List.set_cons_zero, List.set_cons_succ]; first | done | exact rfl) | rfl)); (case' nextrp6 => skip))
      (refine' GG.grow_write (u := .int .i64 m) rfl ?wtrp7 ?runrp7 ?putrp7 ?nextrp7; (case wtrp7 => rfl); (case runrp7 => (intro dn s w' hS hd H; obtain ⟨w9, hr9, h9, hz9⟩ := (hS.g0 hd).copy HM.out hm2; exact ⟨(), w9, (by clear hS H; go_simp), GG.OneW.put h9, trivial, hz9⟩)); (case putrp7 => (first | (simp only [Act.put, List.setIfInBounds_toArray, List.set_cons_zero, List.set_cons_succ]; first | done | exact rfl) | rfl)); (case' nextrp7 => skip))
      (refine' GG.grow_lit (GG.OneW.still (by decide)) rfl ?wtrp8 ?runrp8 ?putrp8 ?nextrp8; (case wtrp8 => rfl); (case runrp8 => (intro w' hS; (obtain ⟨dn, s, hS⟩ := hS); clear hS; go_simp; first | done | exact rfl)); (case putrp8 => (first | (simp only [Act.put, List.setIfInBounds_toArray, List.set_cons_zero, List.set_cons_succ]; first | done | exact rfl) | rfl)); (case' nextrp8 => skip))
      intro dn s W1 hS hdn _
      have HA1 := Lib.hid (hS.g1 (hdn 7 (by decide)))
      clear hS hdn A0 HG HB HM
      refine wpAny_ready (rs := [9]) (by kernel_rfl) (by simp) (AllReady.cons rfl (fun K hK => ?_) AllReady.nil)
      go_simp
      refine hK _ _ ?_
      clear hK K
      refine wpAny_done (by kernel_rfl) ?_ _
      go_wp2_with fail
      go_roundw
      case rel => exact ⟨j + m, rfl, hm2, fun _ => by omega, HA1.out.1, HA1.out.2⟩
      case measure => simp [intOf]; omega
    · have hjn : j = n := by omega
      have HG := Lib.hid hg
      have HB := Lib.hid hb
      have hdl : decide (j < n) = false := by simpa using hlt
      clear hg hb hj0 hlt
      go_wp2_with fail
      go_ret
      exact ⟨rfl, by have := HG.out; rw [hjn] at this; unfold repL at this; rw [Nat.sub_self, List.replicate_zero, List.append_nil] at this; exact this, HB.out⟩

theorem hrepeat_z {n : Nat} (z : Int) (hn : n ≤ 16384) (hz : z = (n : Int)) (b : Nat) (w : World) (hb : Blk w b #[.int .i64 (-1)] 3) : Calls Tryz.prog 64 #[.slice (some ⟨b, 0, none⟩) 1 1, .int .i64 z] w (RepPost w n) := by
  subst hz
  exact hrepeat n hn b w hb
/-- What New answers. -/
def NewPost (w : World) (N : Nat) (e : Ending) (w' : World) : Prop := ∃ p, e = .returned (hp p) ∧ HpAt (fun b => w.heap.size ≤ b) w' p N (fun _ => none) ∧ Below w.heap.size w w'
theorem newPost {w : World} {N : Nat} (hN : N ≤ 16384) (w1 : World) (hbe : Below (w.alloc (.cells #[.int .i64 (-1)] 3)).heap.size (w.alloc (.cells #[.int .i64 (-1)] 3)) w1) (hb : Blk w1 (w.alloc (.cells #[.int .i64 (-1)] 3)).heap.size (List.replicate N (Value.int .i64 (-1))).toArray 3) :
    HpAt (fun b => w.heap.size ≤ b) (w1.alloc (.cells #[.slice none 0 0, .slice (some ⟨w.heap.size + 1, 0, none⟩) N N] 134)) w1.heap.size N (fun _ => none) ∧ Below w.heap.size w (w1.alloc (.cells #[.slice none 0 0, .slice (some ⟨w.heap.size + 1, 0, none⟩) N N] 134)) := by
  have hsz : (w.alloc (.cells #[.int .i64 (-1)] 3)).heap.size = w.heap.size + 1 := by simp
  have hz1 := hbe.size
  rw [hsz] at hb hz1
  refine ⟨⟨hN, [], List.replicate N (-1), .slice none 0 0, .slice (some ⟨w.heap.size + 1, 0, none⟩) N N, ⟨Blk.new _ _ _ _ rfl, by omega, World.ownsRow_nil _ _ _ _, fun g hg => (by cases hg), ?_, fun g hg => ?_⟩, Hpp.empty N⟩, ((below_new (w := w) _).trans (hbe.mono (by simp))).alloc (by omega) _⟩
  · rw [List.length_replicate]
    refine ⟨by simp, Or.inr ⟨w.heap.size + 1, N, _, rfl, Nat.zero_le _, hb.old _, Nat.le_refl _, by unfold maxLen; omega, by simp, by simp⟩⟩
  · simp only [Value.ownBlock, Option.some.injEq] at hg
    omega
set_option maxHeartbeats 2000000 in
set_option maxRecDepth 100000 in
theorem hnew_any (n : Int) (w : World) (h0 : -9223372036854775808 ≤ n) (h1 : n ≤ 9223372036854775807) : Calls Tryz.prog 65 #[.int .i64 n] w (NewPost w (keysN n)) := by
  rcases (show n < 0 ∨ (¬ n < 0 ∧ 16384 < n) ∨ (¬ n < 0 ∧ n ≤ 16384) from by omega) with hc | ⟨hc, hd⟩ | ⟨hc, hd⟩
  · have hk : keysN n = 0 := if_pos hc
    have HP := Lib.hid (newPost (w := w) (N := 0) (by omega))
    rw [hk]
    clear hk h0 h1
    go_enter Tryz.func65, Tryz.ntmps65
    go_wp2_with fail
    refine (hrepeat_z (n := 0) _ (by omega) (by omega) _ _ (Blk.new _ _ _ _ rfl)).mono ?_
    rintro e w1 ⟨rfl, hb1, hbe⟩
    have hsz : w.heap.size + 1 ≤ w1.heap.size := by have := hbe.size; simpa using this
    have HPP := Lib.hid (HP.out w1 hbe hb1)
    clear hb1 hbe HP
    go_wp2_with fail
    go_ret
    exact ⟨_, rfl, HPP.out⟩
  · have hk : keysN n = 16384 := by unfold keysN; rw [if_neg hc, if_pos hd]
    have HP := Lib.hid (newPost (w := w) (N := 16384) (by omega))
    rw [hk]
    clear hk h0 h1
    go_enter Tryz.func65, Tryz.ntmps65
    go_wp2_with fail
    refine (hrepeat_z (n := 16384) _ (by omega) (by omega) _ _ (Blk.new _ _ _ _ rfl)).mono ?_
    rintro e w1 ⟨rfl, hb1, hbe⟩
    have hsz : w.heap.size + 1 ≤ w1.heap.size := by have := hbe.size; simpa using this
    have HPP := Lib.hid (HP.out w1 hbe hb1)
    clear hb1 hbe HP
    go_wp2_with fail
    go_ret
    exact ⟨_, rfl, HPP.out⟩
  · obtain ⟨k, rfl⟩ : ∃ k : Nat, n = k := ⟨n.toNat, by omega⟩
    have hk : keysN k = k := by unfold keysN; rw [if_neg hc, if_neg (by omega), Int.toNat_natCast]
    have HP := Lib.hid (newPost (w := w) (N := k) (by omega))
    rw [hk]
    have hk0 : (0 : Int) ≤ k := by omega
    clear hk h0 h1 hc
    go_enter Tryz.func65, Tryz.ntmps65
    go_wp2_with fail
    refine (hrepeat_z (n := k) _ (by omega) (by omega) _ _ (Blk.new _ _ _ _ rfl)).mono ?_
    rintro e w1 ⟨rfl, hb1, hbe⟩
    have hsz : w.heap.size + 1 ≤ w1.heap.size := by have := hbe.size; simpa using this
    have HPP := Lib.hid (HP.out w1 hbe hb1)
    clear hb1 hbe HP
    go_wp2_with fail
    go_ret
    exact ⟨_, rfl, HPP.out⟩

end Go.Proofs.YtgihaakgadmidaaGreat.HP

/-
  The program's heap by values: what each call answers, and what is in behind it.
-/
namespace Go.Proofs.YtgihaakgadmidaaGreat.HP
open Go.RowKit

/-- The blocks of S and those that are not there yet. -/
def Plus (S : Nat → Prop) (w : World) : Nat → Prop := fun b => S b ∨ w.heap.size ≤ b
section
variable {S : Nat → Prop} {w : World} {p N : Nat} {m : Nat → Option Int}
theorem putB_out {k c : Int} (h : k < 0 ∨ (N : Int) ≤ k) : putB N m k c = false := by unfold putB; rw [if_pos h]
theorem putB_none {k : Nat} {c : Int} (h : k < N) (hm : m k = none) : putB N m k c = true := by unfold putB; rw [if_neg (by omega), Int.toNat_natCast, hm]
theorem putB_some {k : Nat} {c d : Int} (h : k < N) (hm : m k = some d) : putB N m k c = decide (hld c < d) := by unfold putB; rw [if_neg (by omega), Int.toNat_natCast, hm]
theorem putM_false {k c : Int} (h : putB N m k c = false) : putM N m k c = m := by unfold putM; rw [h, if_neg (by simp)]
theorem putM_true {k : Nat} {c : Int} (h : putB N m k c = true) : putM N m k c = upd m k (some (hld c)) := by unfold putM; rw [h, if_pos rfl, Int.toNat_natCast]
theorem vput (h : HpAt S w p N m) (k c : Int) (k0 : -9223372036854775808 ≤ k) (k1 : k ≤ 9223372036854775807) (c0 : -9223372036854775808 ≤ c) (c1 : c ≤ 9223372036854775807) :
    Calls Tryz.prog 66 #[hp p, .int .i64 k, .int .i64 c] w fun e w' => e = .returned (.bool (putB N m k c)) ∧ HpAt (Plus S w) w' p N (putM N m k c) ∧ Keep (fun b => ¬ S b) w w' := by
  obtain ⟨hN, R, P, rv, pv, hs, hh⟩ := h
  have hpl := hh.con.pl
  by_cases hr : k < 0 ∨ (N : Int) ≤ k
  · have hB : putB N m k c = false := putB_out hr
    refine (hput_no hs k c (by rw [hpl]; omega)).mono ?_
    rintro e w' ⟨rfl, rfl⟩
    rw [hB, putM_false hB]
    exact ⟨rfl, ⟨hN, R, P, rv, pv, hs.mono fun _ _ h => Or.inl h, hh⟩, Keep.refl _ _⟩
  · obtain ⟨j, rfl⟩ : ∃ j : Nat, k = j := ⟨k.toNat, by omega⟩
    have hj : j < N := by omega
    cases hm : m j with
    | none =>
      have hB : putB N m j c = true := putB_none hj hm
      rw [hB, putM_true hB]
      exact (hput_new hs hh hN j c c0 c1 hm hj (hh.con.off j hj hm)).mono fun e w' h => h
    | some d =>
      by_cases hlt : hld c < d
      · have hB : putB N m j c = true := by rw [putB_some hj hm]; exact decide_eq_true hlt
        rw [hB, putM_true hB]
        exact (hput_low hs hh hN j c d c0 c1 hm hj hlt).mono fun e w' h => h
      · have hB : putB N m j c = false := by rw [putB_some hj hm]; exact decide_eq_false hlt
        rw [hB, putM_false hB]
        refine (hput_same hs hh hN j c d c0 c1 hm hj (by omega)).mono ?_
        rintro e w' ⟨rfl, hb⟩
        exact ⟨rfl, ⟨hN, R, P, rv, pv, (hs.old hb).mono fun _ _ h => Or.inl h, hh⟩, Keep.of hb⟩
def popT (x : Int × Int × Bool) : Value := .tuple #[.int .i64 x.1, .int .i64 x.2.1, .bool x.2.2]
theorem Hpp.inv0 {R : List It} {P : List Int} (h : Hpp N R P m) : (R = [] ∧ lst m N = none) ∨ ∃ x, R[0]? = some x ∧ lst m N = some x := by
  cases R with
  | nil => exact Or.inl ⟨rfl, lst_zero (by have := h.con.rl; simpa using this.symm)⟩
  | cons x r => exact Or.inr ⟨x, rfl, h.least rfl⟩
theorem vpop (h : HpAt S w p N m) :
    Calls Tryz.prog 67 #[hp p] w fun e w' => e = .returned (popT (popV N m)) ∧ HpAt (Plus S w) w' p N (popM N m) ∧ Keep (fun b => ¬ S b) w w' := by
  obtain ⟨hN, R, P, rv, pv, hs, hh⟩ := h
  rcases hh.inv0 with ⟨rfl, hl⟩ | ⟨x, hx, hl⟩
  · refine (hpop_no hs).mono ?_
    rintro e w' ⟨rfl, rfl⟩
    unfold popV popM
    rw [hl]
    exact ⟨rfl, ⟨hN, [], P, rv, pv, hs.mono fun _ _ h => Or.inl h, hh⟩, Keep.refl _ _⟩
  · refine (hpop0 (S := fun b => S b ∧ b < w.heap.size) (fun _ h => h.2) (hs.mono fun _ h1 h2 => ⟨h2, h1⟩) hh hN x hx).mono ?_
    rintro e w' ⟨rfl, R2, P2, rv2, pv2, hs2, hh2, hk2⟩
    unfold popV popM
    rw [hl]
    exact ⟨rfl, ⟨hN, R2, P2, rv2, pv2, hs2.mono fun _ _ h => Or.inl h.1, hh2⟩, NotS.mono hk2⟩
end

end Go.Proofs.YtgihaakgadmidaaGreat.HP
