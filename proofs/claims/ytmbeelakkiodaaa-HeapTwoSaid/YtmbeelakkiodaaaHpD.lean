/-
  The program's heap: Put.
-/
import Derived.Test.YtmbeelakkiodaaaHpC
import Derived.Test.YtmbeelakkiodaaaCostA
import Derived.Deep.RegionLaw
import Derived.Maps.AppendAt
namespace Go.Proofs.Ytmbeelakkiodaaa
open Go.RowKit

/-- A pointer to a new block. -/
def PtrC (W : World) (cs : Array Value) (t : TypeId) (v : Value) (w : World) : Prop := ∃ b, v = .pointer (some ⟨b, 0, none⟩) ∧ W.heap.size ≤ b ∧ Blk w b cs t
theorem PtrC.below {W w w' : World} {cs : Array Value} {t : TypeId} {v : Value} (h : PtrC W cs t v w) (hb : Below w.heap.size w w') : PtrC W cs t v w' := by
  obtain ⟨b, e, h1, h2⟩ := h
  exact ⟨b, e, h1, h2.keep hb⟩
theorem infoItem : (Try.prog.info? 56).map (fun i => (i.zero, i.size, i.bytes)) = some (some (.agg #[.int .i64 0, .int .i64 0]), 2, 16) := by kernel_rfl
/-- An append whose run is known, as one step of a region that draws. -/
theorem step_append_run {P : Program} {ops : Array Oper} {o : Oper} {a : Act} {w w' : World} {K : Act → World → Prop} {Q : Exit → Act → World → Prop} {E : Prop} (hg : o.guard = none) (s x : Operand) (t : TypeId) (ho : o.op = .call { callee := .builtin .append, args := #[s, x], argTypes := #[t, t] })
    (v sv v' : Value) (hs : a.eval s = v) (hx : a.eval x = sv) (hr : (Builtin.append_ #[t, t] o.type #[v, sv]).run P w = .ok v' w') (hK : K (a.put o.dst v') w') :
    if Region.wanted o (yielded ops a.tmps) = true then Oper.wp P o a w K Q else E := by
  have hw : Region.wanted o (yielded ops a.tmps) = true := by simp [Region.wanted, hg]
  rw [if_pos hw]
  unfold Oper.wp execOp
  simp only [ho, resolve, invoke, builtin, Sem.run_bind, Sem.run_pure, Result.andThen_ok, List.map_toArray, List.map_cons, List.map_nil, hs, hx, hr]
  exact hK

theorem below_new {w : World} (o : Obj) : Below w.heap.size w (w.alloc o) := (Below.refl _ _).alloc (Nat.le_refl _) _
theorem Keep.andNew {S : Nat → Prop} {w u v : World} (h : Keep (fun b => ¬ S b) w u) (k : Keep (fun b => ¬ (S b ∨ w.heap.size ≤ b)) u v) : Keep (fun b => ¬ S b) w v :=
  ⟨k.os.trans h.os, k.tape.trans h.tape, k.output.trans h.output, Nat.le_trans h.size k.size, fun i hi hp => (k.block i (Nat.lt_of_lt_of_le hi h.size) (fun e => e.elim hp (fun e => by omega))).trans (h.block i hi hp)⟩
/-- What Put answers where it goes up: the heap, of S's blocks and new ones. -/
def PutPost (S : Nat → Prop) (w : World) (p N : Nat) (m : Nat → Option Int) (e : Ending) (w' : World) : Prop :=
  e = .returned (.bool true) ∧ HpAt (fun b => S b ∨ w.heap.size ≤ b) w' p N m ∧ Keep (fun b => ¬ S b) w w'
section
variable {S : Nat → Prop} {w : World} {p : Nat} {R : List It} {P : List Int} {rv pv : Value} {N : Nat} {m : Nat → Option Int}

set_option maxHeartbeats 2000000 in
theorem hput_no (h : HpS S w p R P rv pv) (k c : Int) (hk : ¬ (0 ≤ k ∧ k < P.length)) : Calls Try.prog 10 #[hp p, .int .i64 k, .int .i64 c] w fun e w' => e = .returned (.bool false) ∧ w = w' := by
  have H := Lib.hid h
  have HK := Lib.hid (decide_eq_false hk)
  clear h hk
  go_enter Try.func10, Try.ntmps10
  go_wp2_with fail
  refine (hhas_any H.out k HK.out).mono ?_
  rintro e w' ⟨rfl, rfl⟩
  go_wp2_with fail
  go_ret
  exact ⟨rfl, rfl⟩

set_option maxHeartbeats 4000000 in
set_option maxRecDepth 100000 in
theorem hput_new (h : HpS S w p R P rv pv) (hh : Hpp N R P m) (hN : N ≤ 16384) (k : Nat) (c : Int) (c0 : -9223372036854775808 ≤ c) (c1 : c ≤ 9223372036854775807) (hm : m k = none) (hkN : k < N) (hP : P[k]? = some (-1)) :
    Calls Try.prog 10 #[hp p, .int .i64 k, .int .i64 c] w (PutPost S w p N (upd m k (some (hld c)))) := by
  obtain ⟨⟨q, cp, rfl, hcp⟩, q', c', rfl⟩ := h.shape
  obtain ⟨cc0, cc1, -, -⟩ := h.k.o2
  have hlt := lt_of_get hP
  have hki : (k : Int) < (P.length : Int) := by omega
  have hk64 : (k : Int) ≤ 9223372036854775807 := by omega
  obtain ⟨g', rfl, pc, -⟩ := h.pl hP
  have C1 := Lib.hid cc1
  have PC := Lib.hid pc
  have H := Lib.hid h
  have HHAS : Hid (decide ((0 : Int) ≤ k ∧ (k : Int) < P.length) = true) := Lib.hid (by simp; omega)
  have c0' := hld_lo c
  have c1' := hld_hi c
  have HPL := Lib.hid hh.con.pl
  have hrl := Nat.le_trans hh.con.len hN
  have HUP := Lib.hid (hh.new hkN hm c0' c1')
  clear h hh hm hP pc cc0 cc1
  go_enter Try.func10, Try.ntmps10
  go_wp2_with fail
  refine (hhas_any H.out k HHAS.out).mono ?_
  rintro e w' ⟨rfl, rfl⟩
  go_wp2_with fail
  have hGS : Grows (fun w' => Below w.heap.size w w') := Grows.below w
  refine' wp_thenL _ 13 (fun w' => Below w.heap.size w w') [[], [0], [0, 1], [0, 1, 2], [], [0, 1, 2, 3, 4], [0, 1, 2, 3, 4, 5], [], [], [8], [7, 8, 9], [], [0, 1, 2, 3, 4, 5, 6]] (Fact.lit _ :: Fact.lit _ :: Fact.lit _ :: Fact.lit _ :: Fact.lit _ :: Fact.lit _ :: Fact.lit _ :: Fact.lit _ :: Fact.lit _ :: Fact.lit _ :: Fact.lit _ :: Fact.fresh _ _ :: Fact.lit _ :: []) (by kernel_rfl) rfl (by kernel_rfl) (Below.refl _ _).drew ?seqp3
  case' seqp3 => skip
  iterate 9 ((first | (apply grow_skip; (case hf => rfl); (case hw => rfl)) | (apply grow_lit; (case hf => rfl); (case hw => rfl); (case hrun => (intro w' hS H; clear H; (have y0 := keep hS C1.out); (have y1 := keep hS PC.out); (have hl0 := World.block_lt_of_cell? w' _ y1); clear hS; go_simp; first | done | exact rfl)))); (case hc => (simp only [Act.put, List.setIfInBounds_toArray, List.set_cons_zero, List.set_cons_succ]; first | done | exact rfl)); (try (case hj => rfl)))
  (refine' grow_call (u := .int .i64 (hld c)) rfl Try.func22 (by kernel_rfl) rfl hGS rfl ?wt1 ?run1 ?put1 ?next1; (case wt1 => rfl); (case run1 => (intro w' hS H; exact (held_any c w' c0 c1).mono (fun e w2 h => ⟨h.1, h.2 ▸ Below.refl _ _⟩))); (case put1 => (simp only [Act.put, List.setIfInBounds_toArray, List.set_cons_zero, List.set_cons_succ]; first | done | exact rfl)); (case' next1 => skip))
  iterate 1 ((first | (apply grow_skip; (case hf => rfl); (case hw => rfl)) | (apply grow_lit; (case hf => rfl); (case hw => rfl); (case hrun => (intro w' hS H; clear H; (have y0 := keep hS C1.out); (have y1 := keep hS PC.out); (have hl0 := World.block_lt_of_cell? w' _ y1); clear hS; go_simp; first | done | exact rfl)))); (case hc => (simp only [Act.put, List.setIfInBounds_toArray, List.set_cons_zero, List.set_cons_succ]; first | done | exact rfl)); (try (case hj => rfl)))
  (refine' grow_fresh (p := PtrC w #[.int .i64 0, .int .i64 0] 56) (hp := fun v w w' h hb => h.below hb) hGS rfl ?wtp3 ?runp3 ?putp3 ?nextp3; (case wtp3 => rfl); (case runp3 => (intro w' hS H; clear H; refine ⟨.pointer (some ⟨w'.heap.size, 0, none⟩), w'.alloc (.cells #[.int .i64 0, .int .i64 0] 56), ?_, ⟨w'.heap.size, rfl, hS.size, Blk.new _ _ _ _ rfl⟩, ⟨w'.heap.size, rfl, Nat.le_refl _, by simp⟩, below_new _⟩; (clear hS; go_simp))); (case putp3 => (intro v; simp only [Act.put, List.setIfInBounds_toArray, List.set_cons_zero, List.set_cons_succ]; first | done | exact rfl)); (case' nextp3 => intro v11))
  iterate 1 ((first | (apply grow_skip; (case hf => rfl); (case hw => rfl)) | (apply grow_lit; (case hf => rfl); (case hw => rfl); (case hrun => (intro w' hS H; clear H; (have y0 := keep hS C1.out); (have y1 := keep hS PC.out); (have hl0 := World.block_lt_of_cell? w' _ y1); clear hS; go_simp; first | done | exact rfl)))); (case hc => (simp only [Act.put, List.setIfInBounds_toArray, List.set_cons_zero, List.set_cons_succ]; first | done | exact rfl)); (try (case hj => rfl)))
  intro w1 hb hk
  have q11 : PtrC w #[.int .i64 0, .int .i64 0] 56 v11 w1 := hk 11 (by decide)
  obtain ⟨bx, rfl, hbx, kx⟩ := q11
  obtain ⟨m0, m1, f0, f1⟩ := kx.o2
  clear hk hGS
  refine wpAny_ready (rs := [13]) (by kernel_rfl) (by simp) (AllReady.cons rfl (fun K hK => ?_) AllReady.nil)
  go_simp
  refine hK _ _ ?_
  clear hK K
  refine wpAny_done (by kernel_rfl) ?_ _
  clear m0 m1 f0 f1
  obtain ⟨w2, hw2⟩ := named ((w1.setCell ⟨bx, 0, none⟩ (.int .i64 k)).setCell ⟨bx, 1, none⟩ (.int .i64 (hld c)))
  rw [← hw2]
  have KX : Hid (Blk w2 bx #[.int .i64 k, .int .i64 (hld c)] 56) := by rw [hw2]; exact Lib.hid (by have := (kx.set 0 (.int .i64 k)).set 1 (.int .i64 (hld c)); simpa using this)
  have HB2 : Hid (Below w.heap.size w w2) := by rw [hw2]; exact Lib.hid (((hb.setCell hbx _)).setCell hbx _)
  clear hw2 kx hb
  have H2 := Lib.hid (H.out.old HB2.out)
  obtain ⟨cc0, cc1, f0, -⟩ := H2.out.k.o2
  go_wp2_with fail
  obtain ⟨m0, m1, -, -⟩ := KX.out.o2
  obtain ⟨W3, hW3⟩ := named (w2.alloc (.cells #[.int .i64 k, .int .i64 (hld c)] 56)).drew
  have hb3 : Below w2.heap.size w2 W3 := by rw [hW3]; exact ((Below.refl _ _).alloc (Nat.le_refl _) _).drew
  have hnb : Blk W3 w2.heap.size #[.int .i64 k, .int .i64 (hld c)] 56 := by rw [hW3]; exact (Blk.new _ _ _ _ rfl).drew
  have H3 := H2.out.old hb3
  have hsz3 : W3.heap.size = w2.heap.size + 1 := by rw [hW3]; simp
  obtain ⟨i0, hi, hz0, hz1, hz2⟩ := info_parts infoItem
  obtain ⟨v', w4, hr, ho, hg, -, hwh⟩ := run_append_own_at (P := Try.prog) W3 0 48 48 56 i0 (.agg #[.int .i64 0, .int .i64 0]) 2 16 Try.underlying48 hi hz0 hz1 hz2 rfl (by decide)
    (.slice q R.length cp) R.length (flatI R) H3.r ⟨w2.heap.size, 0, none⟩ 1 1 [.int .i64 k, .int .i64 (hld c)] rfl
    (by
      intro j u hj
      match j, hj with
      | 0, hj => simp at hj; subst hj; exact hnb.cell 0 rfl
      | 1, hj => simp at hj; subst hj; exact hnb.cell 1 rfl
      | j + 2, hj => simp at hj)
    (by intro u hu; simp at hu; rcases hu with rfl | rfl <;> rfl) (by unfold maxLen; omega) (by omega) (Nat.zero_le _)
  have hrlt : ∀ g, (Value.slice q R.length cp).ownBlock = some g → g < w.heap.size := fun g hg => (H.out.r.lt g hg).2
  have hkeep : Keep (fun b => (Value.slice q R.length cp).ownBlock ≠ some b) W3 w4 := ⟨hg.os, hg.tape, hg.output, hg.size, fun k hk hp => hg.block k hk (fun e => hp e.symm)⟩
  have hk4 := hkeep.blk H3.k (own_ne_blk H3.r H3.k (by decide))
  have hl4 := hkeep.own H3.l (fun g hg' e => by
    rcases owns_blk H3.l with ⟨e1, -⟩ | ⟨g2, _, _, e1, hb, _⟩
    · rw [e1] at hg'; cases hg'
    · rw [e1] at hg'
      injection hg' with hg'
      subst hg'
      exact own_ne_blk H3.r hb (by decide) e)
  have hbx4 : Blk w4 bx _ _ := hkeep.blk (KX.out.keep hb3) (fun e => by have := hrlt _ e; omega)
  obtain ⟨q2, c2, rfl⟩ : ∃ q2 c2, v' = .slice q2 (R.length + 1) c2 := by
    rcases owns_blk ho with ⟨e, e0⟩ | ⟨g, c, cur, e, _⟩
    · omega
    · exact ⟨_, _, e⟩
  have h5 : HpS (fun b => S b ∨ w.heap.size ≤ b) (w4.setCell ⟨p, 0, none⟩ (.slice q2 (R.length + 1) c2)) p (R ++ [(k, hld c)]) P (.slice q2 (R.length + 1) c2) (.slice (some ⟨g', 0, none⟩) P.length c') := by
    refine ⟨by simpa using hk4.set 0 (.slice q2 (R.length + 1) c2), Or.inl H3.p, ?_, fun g hg => ?_, own_other hl4 (own_ne_blk hl4 hk4 (by decide)) _ _, fun g hg => Or.inl (H3.lS g hg)⟩
    · rw [List.length_append, flatI_app]
      exact own_other ho (own_ne_blk ho hk4 (by decide)) _ _
    · rcases hwh with e | e
      · rw [e] at hg; exact Or.inl (H3.rS g hg)
      · rw [e] at hg
        injection hg with hg
        have := hb3.size
        have := HB2.out.size
        exact Or.inr (by omega)
  have hkp : Keep (fun b => ¬ S b) w (w4.setCell ⟨p, 0, none⟩ (.slice q2 (R.length + 1) c2)) :=
    (((Keep.of (HB2.out.trans (hb3.mono HB2.out.size))).trans (hkeep.mono fun b hb e => hb (H3.rS b e)))).setCell (fun hn => hn H3.p) _ _
  have hbx5 : Blk (w4.setCell ⟨p, 0, none⟩ (.slice q2 (R.length + 1) c2)) bx #[.int .i64 k, .int .i64 (hld c)] 56 := hbx4.other _ _ (fun e => by have := H.out.k.lt; omega)
  obtain ⟨pc0, -, pf0, -⟩ := hk4.o2
  obtain ⟨w5, hw5⟩ := named (w4.setCell ⟨p, 0, none⟩ (.slice q2 (R.length + 1) c2))
  rw [← hw5] at h5 hkp hbx5
  have H5 := Lib.hid h5
  have HKP := Lib.hid hkp
  have HBX := Lib.hid hbx5
  have HW5 := Lib.hid hw5
  rw [hW3] at hr
  have HR := Lib.hid hr
  have hpz : p < w2.heap.size := H2.out.k.lt
  have hbz : bx < w2.heap.size := KX.out.lt
  have hnpb : p ≠ bx := fun e => by have := H.out.k.lt; omega
  clear hw5 hr ho hg hwh hkeep hk4 hl4 hbx4 h5 hkp hbx5 hb3 hnb H3 hsz3 hW3 hi hz0 hz1 hz2 hrlt
  go_region_law (refine step_append_run rfl _ _ 48 rfl _ _ _ rfl rfl HR.out ?_)
  all_goals
    clear m0 m1
    obtain ⟨m0, m1, -, -⟩ := HBX.out.o2
    clear pc0 pf0 cc0 cc1 f0
    rw [show w4.setCell ⟨p, 0, none⟩ (.slice q2 (R.length + 1) c2) = w5 from HW5.out.symm]
    go_wp2_with fail
    refine (hrise_any H5.out R.length (k, hld c) HUP.out hN).mono ?_
    rintro e w6 ⟨rfl, R6, P6, hs6, hh6, hk6⟩
    have HP : Hid (PutPost S w p N (upd m k (some (hld c))) (.returned (.bool true)) w6) := Lib.hid ⟨rfl, ⟨hN, R6, P6, _, _, hs6, hh6⟩, HKP.out.andNew hk6⟩
    clear hs6 hh6 hk6
    go_wp2_with fail
    go_ret
    exact HP.out

set_option maxHeartbeats 4000000 in
set_option maxRecDepth 100000 in
theorem hput_low (h : HpS S w p R P rv pv) (hh : Hpp N R P m) (hN : N ≤ 16384) (k : Nat) (c d : Int) (c0 : -9223372036854775808 ≤ c) (c1 : c ≤ 9223372036854775807) (hm : m k = some d) (hkN : k < N) (hlo : hld c < d) :
    Calls Try.prog 10 #[hp p, .int .i64 k, .int .i64 c] w (PutPost S w p N (upd m k (some (hld c)))) := by
  obtain ⟨i, hP, hRi, hup⟩ := hh.low hkN hm hlo (hld_lo c)
  obtain ⟨⟨q, cp, rfl, hcp⟩, q', c', rfl⟩ := h.shape
  obtain ⟨cc0, cc1, -, -⟩ := h.k.o2
  have hlt := lt_of_get hP
  have hki : (k : Int) < (P.length : Int) := by omega
  have hk64 : (k : Int) ≤ 9223372036854775807 := by omega
  obtain ⟨g', rfl, pc, -⟩ := h.pl hP
  have C1 := Lib.hid cc1
  have PC := Lib.hid pc
  have H := Lib.hid h
  have HHAS : Hid (decide ((0 : Int) ≤ k ∧ (k : Int) < P.length) = true) := Lib.hid (by simp; omega)
  have c0' := hld_lo c
  have c1' := hld_hi c
  obtain ⟨gr, rfl, x0, x1, -⟩ := h.at hRi
  simp only [] at x0 x1
  have hil := lt_of_get hRi
  have hii : (i : Int) < (R.length : Int) := by omega
  have hin : ((i : Int) == -1) = false := by simp
  have hrl := Nat.le_trans hh.con.len hN
  have hi64 : (i : Int) ≤ 9223372036854775807 := by omega
  have X0 := Lib.hid x0
  have X1 := Lib.hid x1
  have HUP := Lib.hid hup
  have hdle : decide (d ≤ hld c) = false := by simp; omega
  clear h hh hm hP hRi hup pc cc0 cc1 x0 x1
  go_enter Try.func10, Try.ntmps10
  go_wp2_with fail
  refine (hhas_any H.out k HHAS.out).mono ?_
  rintro e w' ⟨rfl, rfl⟩
  go_wp2_with fail
  have hGS : Grows (fun w' => Below w.heap.size w w') := Grows.below w
  refine' wp_thenL _ 13 (fun w' => Below w.heap.size w w') [[], [0], [0, 1], [0, 1, 2], [], [0, 1, 2, 3, 4], [0, 1, 2, 3, 4, 5], [], [], [8], [7, 8, 9], [], [0, 1, 2, 3, 4, 5, 6]] (Fact.lit _ :: Fact.lit _ :: Fact.lit _ :: Fact.lit _ :: Fact.lit _ :: Fact.lit _ :: Fact.lit _ :: Fact.lit _ :: Fact.lit _ :: Fact.lit _ :: Fact.lit _ :: Fact.fresh _ _ :: Fact.lit _ :: []) (by kernel_rfl) rfl (by kernel_rfl) (Below.refl _ _).drew ?seqp3
  case' seqp3 => skip
  iterate 9 ((first | (apply grow_skip; (case hf => rfl); (case hw => rfl)) | (apply grow_lit; (case hf => rfl); (case hw => rfl); (case hrun => (intro w' hS H; clear H; (have y0 := keep hS C1.out); (have y1 := keep hS PC.out); (have hl0 := World.block_lt_of_cell? w' _ y1); clear hS; go_simp; first | done | exact rfl)))); (case hc => (simp only [Act.put, List.setIfInBounds_toArray, List.set_cons_zero, List.set_cons_succ]; first | done | exact rfl)); (try (case hj => rfl)))
  (refine' grow_call (u := .int .i64 (hld c)) rfl Try.func22 (by kernel_rfl) rfl hGS rfl ?wt2 ?run2 ?put2 ?next2; (case wt2 => rfl); (case run2 => (intro w' hS H; exact (held_any c w' c0 c1).mono (fun e w2 h => ⟨h.1, h.2 ▸ Below.refl _ _⟩))); (case put2 => (simp only [Act.put, List.setIfInBounds_toArray, List.set_cons_zero, List.set_cons_succ]; first | done | exact rfl)); (case' next2 => skip))
  iterate 1 ((first | (apply grow_skip; (case hf => rfl); (case hw => rfl)) | (apply grow_lit; (case hf => rfl); (case hw => rfl); (case hrun => (intro w' hS H; clear H; (have y0 := keep hS C1.out); (have y1 := keep hS PC.out); (have hl0 := World.block_lt_of_cell? w' _ y1); clear hS; go_simp; first | done | exact rfl)))); (case hc => (simp only [Act.put, List.setIfInBounds_toArray, List.set_cons_zero, List.set_cons_succ]; first | done | exact rfl)); (try (case hj => rfl)))
  (refine' grow_fresh (p := PtrC w #[.int .i64 0, .int .i64 0] 56) (hp := fun v w w' h hb => h.below hb) hGS rfl ?wtp3 ?runp3 ?putp3 ?nextp3; (case wtp3 => rfl); (case runp3 => (intro w' hS H; clear H; refine ⟨.pointer (some ⟨w'.heap.size, 0, none⟩), w'.alloc (.cells #[.int .i64 0, .int .i64 0] 56), ?_, ⟨w'.heap.size, rfl, hS.size, Blk.new _ _ _ _ rfl⟩, ⟨w'.heap.size, rfl, Nat.le_refl _, by simp⟩, below_new _⟩; (clear hS; go_simp))); (case putp3 => (intro v; simp only [Act.put, List.setIfInBounds_toArray, List.set_cons_zero, List.set_cons_succ]; first | done | exact rfl)); (case' nextp3 => intro v11))
  iterate 1 ((first | (apply grow_skip; (case hf => rfl); (case hw => rfl)) | (apply grow_lit; (case hf => rfl); (case hw => rfl); (case hrun => (intro w' hS H; clear H; (have y0 := keep hS C1.out); (have y1 := keep hS PC.out); (have hl0 := World.block_lt_of_cell? w' _ y1); clear hS; go_simp; first | done | exact rfl)))); (case hc => (simp only [Act.put, List.setIfInBounds_toArray, List.set_cons_zero, List.set_cons_succ]; first | done | exact rfl)); (try (case hj => rfl)))
  intro w1 hb hk
  have q11 : PtrC w #[.int .i64 0, .int .i64 0] 56 v11 w1 := hk 11 (by decide)
  obtain ⟨bx, rfl, hbx, kx⟩ := q11
  obtain ⟨m0, m1, f0, f1⟩ := kx.o2
  clear hk hGS
  refine wpAny_ready (rs := [13]) (by kernel_rfl) (by simp) (AllReady.cons rfl (fun K hK => ?_) AllReady.nil)
  go_simp
  refine hK _ _ ?_
  clear hK K
  refine wpAny_done (by kernel_rfl) ?_ _
  clear m0 m1 f0 f1
  obtain ⟨w2, hw2⟩ := named ((w1.setCell ⟨bx, 0, none⟩ (.int .i64 k)).setCell ⟨bx, 1, none⟩ (.int .i64 (hld c)))
  rw [← hw2]
  have KX : Hid (Blk w2 bx #[.int .i64 k, .int .i64 (hld c)] 56) := by rw [hw2]; exact Lib.hid (by have := (kx.set 0 (.int .i64 k)).set 1 (.int .i64 (hld c)); simpa using this)
  have HB2 : Hid (Below w.heap.size w w2) := by rw [hw2]; exact Lib.hid (((hb.setCell hbx _)).setCell hbx _)
  clear hw2 kx hb
  have H2 := Lib.hid (H.out.old HB2.out)
  obtain ⟨cc0, cc1, f0, -⟩ := H2.out.k.o2
  obtain ⟨m0, m1, -, -⟩ := KX.out.o2
  have x0 := keep HB2.out X0.out
  have x1 := keep HB2.out X1.out
  go_wp2_with fail
  go_quiet (fail)
  go_wp2_with fail
  refine (hrise_any (H2.out.old (below_drewN (Below.refl _ _) _)) i (k, hld c) HUP.out hN).mono ?_
  rintro e w6 ⟨rfl, R6, P6, hs6, hh6, hk6⟩
  have HP : Hid (PutPost S w p N (upd m k (some (hld c))) (.returned (.bool true)) w6) := Lib.hid ⟨rfl, ⟨hN, R6, P6, _, _, hs6.mono fun _ _ h => Or.inl h, hh6⟩, (Keep.of (below_drewN HB2.out _)).trans hk6⟩
  clear hs6 hh6 hk6
  go_wp2_with fail
  go_ret
  exact HP.out

set_option maxHeartbeats 4000000 in
set_option maxRecDepth 100000 in
theorem hput_same (h : HpS S w p R P rv pv) (hh : Hpp N R P m) (hN : N ≤ 16384) (k : Nat) (c d : Int) (c0 : -9223372036854775808 ≤ c) (c1 : c ≤ 9223372036854775807) (hm : m k = some d) (hkN : k < N) (hlo : d ≤ hld c) :
    Calls Try.prog 10 #[hp p, .int .i64 k, .int .i64 c] w fun e w' => e = .returned (.bool false) ∧ Below w.heap.size w w' := by
  obtain ⟨i, hRi⟩ := hh.con.back k d hm
  obtain ⟨-, hP, -⟩ := hh.con.row i _ hRi
  simp only [] at hP
  obtain ⟨⟨q, cp, rfl, hcp⟩, q', c', rfl⟩ := h.shape
  obtain ⟨cc0, cc1, -, -⟩ := h.k.o2
  have hlt := lt_of_get hP
  have hki : (k : Int) < (P.length : Int) := by omega
  have hk64 : (k : Int) ≤ 9223372036854775807 := by omega
  obtain ⟨g', rfl, pc, -⟩ := h.pl hP
  have C1 := Lib.hid cc1
  have PC := Lib.hid pc
  have H := Lib.hid h
  have HHAS : Hid (decide ((0 : Int) ≤ k ∧ (k : Int) < P.length) = true) := Lib.hid (by simp; omega)
  have c0' := hld_lo c
  have c1' := hld_hi c
  obtain ⟨gr, rfl, x0, x1, -⟩ := h.at hRi
  simp only [] at x0 x1
  have hil := lt_of_get hRi
  have hii : (i : Int) < (R.length : Int) := by omega
  have hin : ((i : Int) == -1) = false := by simp
  have hrl := Nat.le_trans hh.con.len hN
  have hi64 : (i : Int) ≤ 9223372036854775807 := by omega
  have X0 := Lib.hid x0
  have X1 := Lib.hid x1
  have hdle : decide (d ≤ hld c) = true := by simpa using hlo
  clear h hh hm hP hRi pc cc0 cc1 x0 x1
  go_enter Try.func10, Try.ntmps10
  go_wp2_with fail
  refine (hhas_any H.out k HHAS.out).mono ?_
  rintro e w' ⟨rfl, rfl⟩
  go_wp2_with fail
  have hGS : Grows (fun w' => Below w.heap.size w w') := Grows.below w
  refine' wp_thenL _ 13 (fun w' => Below w.heap.size w w') [[], [0], [0, 1], [0, 1, 2], [], [0, 1, 2, 3, 4], [0, 1, 2, 3, 4, 5], [], [], [8], [7, 8, 9], [], [0, 1, 2, 3, 4, 5, 6]] (Fact.lit _ :: Fact.lit _ :: Fact.lit _ :: Fact.lit _ :: Fact.lit _ :: Fact.lit _ :: Fact.lit _ :: Fact.lit _ :: Fact.lit _ :: Fact.lit _ :: Fact.lit _ :: Fact.fresh _ _ :: Fact.lit _ :: []) (by kernel_rfl) rfl (by kernel_rfl) (Below.refl _ _).drew ?seqp3
  case' seqp3 => skip
  iterate 9 ((first | (apply grow_skip; (case hf => rfl); (case hw => rfl)) | (apply grow_lit; (case hf => rfl); (case hw => rfl); (case hrun => (intro w' hS H; clear H; (have y0 := keep hS C1.out); (have y1 := keep hS PC.out); (have hl0 := World.block_lt_of_cell? w' _ y1); clear hS; go_simp; first | done | exact rfl)))); (case hc => (simp only [Act.put, List.setIfInBounds_toArray, List.set_cons_zero, List.set_cons_succ]; first | done | exact rfl)); (try (case hj => rfl)))
  (refine' grow_call (u := .int .i64 (hld c)) rfl Try.func22 (by kernel_rfl) rfl hGS rfl ?wt3 ?run3 ?put3 ?next3; (case wt3 => rfl); (case run3 => (intro w' hS H; exact (held_any c w' c0 c1).mono (fun e w2 h => ⟨h.1, h.2 ▸ Below.refl _ _⟩))); (case put3 => (simp only [Act.put, List.setIfInBounds_toArray, List.set_cons_zero, List.set_cons_succ]; first | done | exact rfl)); (case' next3 => skip))
  iterate 1 ((first | (apply grow_skip; (case hf => rfl); (case hw => rfl)) | (apply grow_lit; (case hf => rfl); (case hw => rfl); (case hrun => (intro w' hS H; clear H; (have y0 := keep hS C1.out); (have y1 := keep hS PC.out); (have hl0 := World.block_lt_of_cell? w' _ y1); clear hS; go_simp; first | done | exact rfl)))); (case hc => (simp only [Act.put, List.setIfInBounds_toArray, List.set_cons_zero, List.set_cons_succ]; first | done | exact rfl)); (try (case hj => rfl)))
  (refine' grow_fresh (p := PtrC w #[.int .i64 0, .int .i64 0] 56) (hp := fun v w w' h hb => h.below hb) hGS rfl ?wtp3 ?runp3 ?putp3 ?nextp3; (case wtp3 => rfl); (case runp3 => (intro w' hS H; clear H; refine ⟨.pointer (some ⟨w'.heap.size, 0, none⟩), w'.alloc (.cells #[.int .i64 0, .int .i64 0] 56), ?_, ⟨w'.heap.size, rfl, hS.size, Blk.new _ _ _ _ rfl⟩, ⟨w'.heap.size, rfl, Nat.le_refl _, by simp⟩, below_new _⟩; (clear hS; go_simp))); (case putp3 => (intro v; simp only [Act.put, List.setIfInBounds_toArray, List.set_cons_zero, List.set_cons_succ]; first | done | exact rfl)); (case' nextp3 => intro v11))
  iterate 1 ((first | (apply grow_skip; (case hf => rfl); (case hw => rfl)) | (apply grow_lit; (case hf => rfl); (case hw => rfl); (case hrun => (intro w' hS H; clear H; (have y0 := keep hS C1.out); (have y1 := keep hS PC.out); (have hl0 := World.block_lt_of_cell? w' _ y1); clear hS; go_simp; first | done | exact rfl)))); (case hc => (simp only [Act.put, List.setIfInBounds_toArray, List.set_cons_zero, List.set_cons_succ]; first | done | exact rfl)); (try (case hj => rfl)))
  intro w1 hb hk
  have q11 : PtrC w #[.int .i64 0, .int .i64 0] 56 v11 w1 := hk 11 (by decide)
  obtain ⟨bx, rfl, hbx, kx⟩ := q11
  obtain ⟨m0, m1, f0, f1⟩ := kx.o2
  clear hk hGS
  refine wpAny_ready (rs := [13]) (by kernel_rfl) (by simp) (AllReady.cons rfl (fun K hK => ?_) AllReady.nil)
  go_simp
  refine hK _ _ ?_
  clear hK K
  refine wpAny_done (by kernel_rfl) ?_ _
  clear m0 m1 f0 f1
  obtain ⟨w2, hw2⟩ := named ((w1.setCell ⟨bx, 0, none⟩ (.int .i64 k)).setCell ⟨bx, 1, none⟩ (.int .i64 (hld c)))
  rw [← hw2]
  have KX : Hid (Blk w2 bx #[.int .i64 k, .int .i64 (hld c)] 56) := by rw [hw2]; exact Lib.hid (by have := (kx.set 0 (.int .i64 k)).set 1 (.int .i64 (hld c)); simpa using this)
  have HB2 : Hid (Below w.heap.size w w2) := by rw [hw2]; exact Lib.hid (((hb.setCell hbx _)).setCell hbx _)
  clear hw2 kx hb
  have H2 := Lib.hid (H.out.old HB2.out)
  obtain ⟨cc0, cc1, f0, -⟩ := H2.out.k.o2
  obtain ⟨m0, m1, -, -⟩ := KX.out.o2
  have x0 := keep HB2.out X0.out
  have x1 := keep HB2.out X1.out
  go_wp2_with fail
  go_quiet (fail)
  go_wp2_with fail
  go_ret
  exact ⟨rfl, below_drewN HB2.out _⟩
end

end Go.Proofs.Ytmbeelakkiodaaa
