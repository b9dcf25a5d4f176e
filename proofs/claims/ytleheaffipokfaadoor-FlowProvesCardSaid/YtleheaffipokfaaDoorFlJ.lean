/-
  All ways of one length are filled: the program's fill.
-/
import Derived.Test.YtleheaffipokfaaDoorFlI
namespace Go.Proofs.YtleheaffipokfaaDoor
open Go.RowKit

/-- A web whose flow may be written. -/
structure WebF (K xb N : Nat) (E : Edg) (A B : List Bool) (ev sv dv : Value) (us : List Value) (p ab fb : Nat) (w : World) (f : List Int) : Prop where
  web : WebS (fun b => b ≠ fb ∧ b ≠ xb ∧ b < K) w p N E A B ev sv dv (.slice (some ⟨fb, 0, none⟩) E.length E.length) ab us
  fk : Blk w fb (numI f) 3
  fl : f.length = E.length
  kw : K ≤ w.heap.size
/-- A region that makes memory: which operations have made which block. -/
structure GG.NamS (W : World) (_ : Nat → Bool) (s : List (Nat × Nat)) (w : World) : Prop where
  b : Below W.heap.size W w
  lt : ∀ x, x ∈ s → x.2 < w.heap.size
  inj : ∀ x y, x ∈ s → y ∈ s → x.2 = y.2 → x = y
def GG.RlN (s : List (Nat × Nat)) (w : World) (s' : List (Nat × Nat)) (w' : World) : Prop := Below w.heap.size w w' ∧ ∀ x, x ∈ s → x ∈ s'
section
variable {W w w' : World} {dn dn' : Nat → Bool} {s : List (Nat × Nat)}
theorem GG.NamS.same (h : GG.NamS W dn s w) (hb : Below w.heap.size w w') : GG.NamS W dn' s w' := ⟨bOn6 h.b hb, fun x hx => Nat.lt_of_lt_of_le (h.lt x hx) hb.size, h.inj⟩
theorem GG.NamS.still {i : Nat} : GG.Still (GG.NamS W) GG.RlN i := ⟨fun _ _ _ h => h.same (Below.refl _ _), fun _ _ => ⟨Below.refl _ _, fun _ h => h⟩⟩
theorem GG.NamS.add (h : GG.NamS W dn s w) (hb : Below w.heap.size w w') (k : Nat) {g : Nat} (hg : w.heap.size ≤ g) (hl : g < w'.heap.size) : GG.NamS W dn' ((k, g) :: s) w' := by
  refine ⟨bOn6 h.b hb, fun x hx => ?_, fun x y hx hy e => ?_⟩
  · rcases List.mem_cons.1 hx with rfl | hx
    · exact hl
    · exact Nat.lt_of_lt_of_le (h.lt x hx) hb.size
  · rcases List.mem_cons.1 hx with rfl | hx <;> rcases List.mem_cons.1 hy with rfl | hy
    · rfl
    · have := h.lt y hy
      simp only at e
      omega
    · have := h.lt x hx
      simp only at e
      omega
    · exact h.inj x y hx hy e
end
/-- A row that operation k has made, whole in a block. -/
def NamB (W : World) (k N : Nat) (Q : Array Value → Prop) (e : TypeId) (v : Value) (s : List (Nat × Nat)) (w : World) : Prop := ∃ b cs, v = .slice (some ⟨b, 0, none⟩) N N ∧ Blk w b cs e ∧ Q cs ∧ W.heap.size ≤ b ∧ (k, b) ∈ s
theorem NamB.st {W : World} {k N : Nat} {Q : Array Value → Prop} {e : TypeId} (v : Value) (s : List (Nat × Nat)) (w : World) (s' : List (Nat × Nat)) (w' : World) (h : NamB W k N Q e v s w) (hr : GG.RlN s w s' w') : NamB W k N Q e v s' w' := by
  obtain ⟨b, cs, e1, hk, hq, hl, hs⟩ := h
  exact ⟨b, cs, e1, hk.keep hr.1, hq, hl, hr.2 _ hs⟩
/-- A tide's value. -/
def NamT (W : World) (p N : Nat) (Q : List Int → Prop) (v : Value) (_ : List (Nat × Nat)) (w : World) : Prop := ∃ ob nb off, v = .agg #[pt p, .slice (some ⟨ob, 0, none⟩) N N, .slice (some ⟨nb, 0, none⟩) N N] ∧ Blk w ob (numI off) 3 ∧ Q off ∧ Blk w nb (List.replicate N (Value.int .i64 0)).toArray 3 ∧ W.heap.size ≤ ob ∧ W.heap.size ≤ nb ∧ ob ≠ nb
theorem NamT.st {W : World} {p N : Nat} {Q : List Int → Prop} (v : Value) (s : List (Nat × Nat)) (w : World) (s' : List (Nat × Nat)) (w' : World) (h : NamT W p N Q v s w) (hr : GG.RlN s w s' w') : NamT W p N Q v s' w' := by
  obtain ⟨ob, nb, off, e, h1, h2, h3, h4⟩ := h
  exact ⟨ob, nb, off, e, h1.keep hr.1, h2, h3.keep hr.1, h4⟩
def NamP (W : World) (k : Nat) (cs : Array Value) (e : TypeId) (v : Value) (s : List (Nat × Nat)) (w : World) : Prop := ∃ b, v = pt b ∧ Blk w b cs e ∧ W.heap.size ≤ b ∧ (k, b) ∈ s
theorem NamP.st {W : World} {k : Nat} {cs : Array Value} {e : TypeId} (v : Value) (s : List (Nat × Nat)) (w : World) (s' : List (Nat × Nat)) (w' : World) (h : NamP W k cs e v s w) (hr : GG.RlN s w s' w') : NamP W k cs e v s' w' := by
  obtain ⟨b, e1, hk, hl, hs⟩ := h
  exact ⟨b, e1, hk.keep hr.1, hl, hr.2 _ hs⟩
theorem Keep.pass {fb nb : Nat} {w W wr : World} (h : Below w.heap.size w W) (k : Keep (TP fb nb) W wr) (hn : w.heap.size ≤ nb) : Keep (fun b => b ≠ fb) w wr :=
  ⟨k.os.trans h.os, k.tape.trans h.tape, k.output.trans h.output, Nat.le_trans h.size k.size, fun b hb hp => (k.block b (Nat.lt_of_lt_of_le hb h.size) ⟨hp, by omega⟩).trans (h.block b hb)⟩
/-- What fill answers. -/
def FillPost (K xb N : Nat) (E : Edg) (A B : List Bool) (ev sv dv : Value) (us : List Value) (p ab fb : Nat) (w : World) (f : List Int) (e : Ending) (w' : World) : Prop :=
  ∃ (s : Nat) (f' : List Int), e = .returned (.int .i64 s) ∧ WebF K xb N E A B ev sv dv us p ab fb w' f' ∧ Keep (fun b => b ≠ fb) w w' ∧ IsFlow N E (setB A) (setB B) f' ∧ valF N E (setB A) f' = valF N E (setB A) f + s ∧ (s = 0 → f' = f ∧ ∀ v, v < N → setB B v = true → ¬ Rch E f 1 (setB A) v)
/-- The loops' head: k of the vertices are through. -/
def FillRel (N : Nat) (E : Edg) (A B : List Bool) (off : List Int) (ev sv dv : Value) (us : List Value) (p tb ab ob nb fb : Nat) (w : World) (f : List Int) (k : Nat) (sv9 : Value) (wr : World) : Prop :=
  ∃ (s : Nat) (f' nx : List Int), sv9 = .int .i64 s ∧ TideM N E A B off ev sv dv us p tb ab ob nb fb wr f' nx ∧ Keep (TP fb nb) w wr ∧ NInv N E nx ∧ IsFlow N E (setB A) (setB B) f' ∧ valF N E (setB A) f' = valF N E (setB A) f + s ∧ (s = 0 → f' = f ∧ DInv N E (setB B) off f nx ∧ ∀ v, v < k → setB A v = true → Dead E (setB B) nx v)
/-- The outer loop's head. -/
def FillOut (N : Nat) (E : Edg) (A B : List Bool) (off : List Int) (ev sv dv : Value) (us : List Value) (p tb ab ob nb fb : Nat) (w : World) (f : List Int) (sv9 iv : Value) (wr : World) : Prop :=
  ∃ k : Nat, k ≤ N ∧ iv = .int .i64 k ∧ FillRel N E A B off ev sv dv us p tb ab ob nb fb w f k sv9 wr
theorem IsFlow.ok {N : Nat} {E : Edg} {A B : VSet} {f : List Int} (h : IsFlow N E A B f) : FlOk E f := ⟨h.len, h.one, h.self⟩
theorem crossS_le (S : VSet) (E : Edg) : crossS S E ≤ E.length := by
  unfold crossS
  have h1 : sumN (fun i => b1 (S (eL E i).1 != S (eL E i).2)) E.length ≤ sumN (fun _ => 1) E.length := sumN_le fun i _ => by
    unfold b1
    split <;> omega
  have h2 : ∀ k, sumN (fun _ => 1) k = k := fun k => by
    induction k with
    | zero => rfl
    | succ k ih => unfold sumN; rw [ih]; omega
  rw [h2] at h1
  exact h1
/-- No more goes through than there are edges. -/
theorem val_most {N : Nat} {E : Edg} {A B : VSet} {f : List Int} (h : IsFlow N E A B f) (hE : EdgIn N E) (hAB : ∀ v, A v = true → B v = false) : valF N E A f ≤ E.length :=
  Int.le_trans (val_le h hE (S := A) ⟨fun _ _ h => h, fun v _ hb => by
    cases e : A v
    · rfl
    · have := hAB v e
      rw [hb] at this
      cases this⟩) (crossS_le A E)

section
variable {K xb N : Nat} {E : Edg} {A B : List Bool} {ev sv dv : Value} {us : List Value} {p ab fb : Nat} {w : World} {f : List Int}
set_option maxHeartbeats 8000000 in
set_option maxRecDepth 100000 in
theorem fill_is (h : WebF K xb N E A B ev sv dv us p ab fb w f) (hf : IsFlow N E (setB A) (setB B) f) (hAB : ∀ v, setB A v = true → setB B v = false) (h0 : 0 ≤ valF N E (setB A) f) :
    Calls Tryd.prog 23 #[pt p] w (FillPost K xb N E A B ev sv dv us p ab fb w f) := by
  have hnn := h.web.nn
  have hen := h.web.en
  have HW := Lib.hid h
  have HFI : Hid (I64s w (.slice (some ⟨fb, 0, none⟩) E.length E.length) f) := Lib.hid (i64s_of_blk h.fk h.fl (by omega))
  have HF := Lib.hid hf
  have HAB := Lib.hid hAB
  have hmk := fun W : World => RI.make1 W 23 3 (.int .i64 0) 8 rfl Tryd.underlying23 infoInt N (by omega) (by decide)
  have HMK := Lib.hid hmk
  obtain ⟨sq, sc, hsv⟩ := h.web.s.shape
  rw [h.web.al] at hsv
  subst hsv
  have HAL := Lib.hid h.web.al
  have DS0 : Hid (GG.NamS w (fun _ => false) [] w.drew) := Lib.hid ⟨(Below.refl _ _).drew, fun x h => (by cases h), fun x y h => (by cases h)⟩
  clear h hf hAB hmk
  go_enter Tryd.func23, Tryd.ntmps23
  go_wp2_with fail
  refine' GG.wp_thenL _ 15 (GG.NamS w) [[], [], [], [2], [2, 3], [2, 3, 4], [1, 2, 3, 4, 5], [], [7], [7, 8], [7, 8, 9], [7, 8, 9, 10], [7, 8, 9, 10, 11], [0, 1, 2, 3, 4, 5, 6, 7, 8, 9, 10, 11, 12], []] (GG.Fact.lit (Rl := GG.RlN) _ :: GG.Fact.lit (Rl := GG.RlN) _ :: GG.Fact.lit (Rl := GG.RlN) _ :: GG.Fact.lit (Rl := GG.RlN) _ :: GG.Fact.lit (Rl := GG.RlN) _ :: GG.Fact.lit (Rl := GG.RlN) _ :: GG.Fact.prop (Rl := GG.RlN) _ _ :: GG.Fact.lit (Rl := GG.RlN) _ :: GG.Fact.lit (Rl := GG.RlN) _ :: GG.Fact.lit (Rl := GG.RlN) _ :: GG.Fact.lit (Rl := GG.RlN) _ :: GG.Fact.lit (Rl := GG.RlN) _ :: GG.Fact.prop (Rl := GG.RlN) _ _ :: GG.Fact.prop (Rl := GG.RlN) _ _ :: GG.Fact.prop (Rl := GG.RlN) _ _ :: []) (by kernel_rfl) rfl (by kernel_rfl) ([]) (DS0.out) ?seqfi
  case' seqfi => skip
  (refine' GG.grow_lit (GG.NamS.still) rfl ?wtfi0 ?runfi0 ?putfi0 ?nextfi0; (case wtfi0 => rfl); (case runfi0 => (intro w' hS; (obtain ⟨dn, s, hS⟩ := hS); (obtain ⟨x0, x1, x2, x3, x4, -, -, -, -, -⟩ := (HW.out.web.old hS.b).k.o5); (have hpl := (HW.out.web.old hS.b).k.lt); clear hS; go_simp; first | done | exact rfl)); (case putfi0 => (first | (simp only [Act.put, List.setIfInBounds_toArray, List.set_cons_zero, List.set_cons_succ]; first | done | exact rfl) | rfl)); (case' nextfi0 => skip))
  (refine' GG.grow_lit (GG.NamS.still) rfl ?wtfi1 ?runfi1 ?putfi1 ?nextfi1; (case wtfi1 => rfl); (case runfi1 => (intro w' hS; (obtain ⟨dn, s, hS⟩ := hS); (obtain ⟨x0, x1, x2, x3, x4, -, -, -, -, -⟩ := (HW.out.web.old hS.b).k.o5); (have hpl := (HW.out.web.old hS.b).k.lt); clear hS; go_simp; first | done | exact rfl)); (case putfi1 => (first | (simp only [Act.put, List.setIfInBounds_toArray, List.set_cons_zero, List.set_cons_succ]; first | done | exact rfl) | rfl)); (case' nextfi1 => skip))
  (refine' GG.grow_lit (GG.NamS.still) rfl ?wtfi2 ?runfi2 ?putfi2 ?nextfi2; (case wtfi2 => rfl); (case runfi2 => (intro w' hS; (obtain ⟨dn, s, hS⟩ := hS); (obtain ⟨x0, x1, x2, x3, x4, -, -, -, -, -⟩ := (HW.out.web.old hS.b).k.o5); (have hpl := (HW.out.web.old hS.b).k.lt); clear hS; go_simp; first | done | exact rfl)); (case putfi2 => (first | (simp only [Act.put, List.setIfInBounds_toArray, List.set_cons_zero, List.set_cons_succ]; first | done | exact rfl) | rfl)); (case' nextfi2 => skip))
  (refine' GG.grow_lit (GG.NamS.still) rfl ?wtfi3 ?runfi3 ?putfi3 ?nextfi3; (case wtfi3 => rfl); (case runfi3 => (intro w' hS; (obtain ⟨dn, s, hS⟩ := hS); (obtain ⟨x0, x1, x2, x3, x4, -, -, -, -, -⟩ := (HW.out.web.old hS.b).k.o5); (have hpl := (HW.out.web.old hS.b).k.lt); clear hS; go_simp; first | done | exact rfl)); (case putfi3 => (first | (simp only [Act.put, List.setIfInBounds_toArray, List.set_cons_zero, List.set_cons_succ]; first | done | exact rfl) | rfl)); (case' nextfi3 => skip))
  (refine' GG.grow_lit (GG.NamS.still) rfl ?wtfi4 ?runfi4 ?putfi4 ?nextfi4; (case wtfi4 => rfl); (case runfi4 => (intro w' hS; (obtain ⟨dn, s, hS⟩ := hS); (obtain ⟨x0, x1, x2, x3, x4, -, -, -, -, -⟩ := (HW.out.web.old hS.b).k.o5); (have hpl := (HW.out.web.old hS.b).k.lt); clear hS; go_simp; first | done | exact rfl)); (case putfi4 => (first | (simp only [Act.put, List.setIfInBounds_toArray, List.set_cons_zero, List.set_cons_succ]; first | done | exact rfl) | rfl)); (case' nextfi4 => skip))
  (refine' GG.grow_lit (GG.NamS.still) rfl ?wtfi5 ?runfi5 ?putfi5 ?nextfi5; (case wtfi5 => rfl); (case runfi5 => (intro w' hS; (obtain ⟨dn, s, hS⟩ := hS); (obtain ⟨x0, x1, x2, x3, x4, -, -, -, -, -⟩ := (HW.out.web.old hS.b).k.o5); (have hpl := (HW.out.web.old hS.b).k.lt); clear hS; go_simp; first | done | exact rfl)); (case putfi5 => (first | (simp only [Act.put, List.setIfInBounds_toArray, List.set_cons_zero, List.set_cons_succ]; first | done | exact rfl) | rfl)); (case' nextfi5 => skip))
  (refine' GG.grow_any_call (p := NamB w 6 N (fun cs => ∃ off, cs = numI off ∧ LevQ N E f 1 (setB A) off) 3) (hp := NamB.st) rfl Tryd.func33 (by kernel_rfl) rfl rfl ?wtfi6 ?runfi6 ?putfi6 ?nextfi6; (case wtfi6 => rfl); (case runfi6 => (intro dn s w' hS hd H; exact (steps_is (HW.out.web.old hS.b) (HFI.out.below hS.b) HW.out.fl (HW.out.web.s.below hS.b) HAL.out (Or.inl rfl)).mono (fun e w2 ⟨ob, off, e1, hk, hl, hq, hb⟩ => ⟨_, (6, ob) :: s, e1, ⟨ob, _, rfl, hk, ⟨off, rfl, hq⟩, Nat.le_trans hS.b.size hl, List.mem_cons_self⟩, hS.add hb 6 hl hk.lt, ⟨hb, fun _ h => List.mem_cons_of_mem _ h⟩, hb.size⟩))); (case putfi6 => (intro v; (simp only [Act.put, List.setIfInBounds_toArray, List.set_cons_zero, List.set_cons_succ]; first | done | exact rfl))); (case' nextfi6 => intro v6))
  (refine' GG.grow_lit (GG.NamS.still) rfl ?wtfi7 ?runfi7 ?putfi7 ?nextfi7; (case wtfi7 => rfl); (case runfi7 => (intro w' hS; (obtain ⟨dn, s, hS⟩ := hS); (obtain ⟨x0, x1, x2, x3, x4, -, -, -, -, -⟩ := (HW.out.web.old hS.b).k.o5); (have hpl := (HW.out.web.old hS.b).k.lt); clear hS; go_simp; first | done | exact rfl)); (case putfi7 => (first | (simp only [Act.put, List.setIfInBounds_toArray, List.set_cons_zero, List.set_cons_succ]; first | done | exact rfl) | rfl)); (case' nextfi7 => skip))
  (refine' GG.grow_lit (GG.NamS.still) rfl ?wtfi8 ?runfi8 ?putfi8 ?nextfi8; (case wtfi8 => rfl); (case runfi8 => (intro w' hS; (obtain ⟨dn, s, hS⟩ := hS); (obtain ⟨x0, x1, x2, x3, x4, -, -, -, -, -⟩ := (HW.out.web.old hS.b).k.o5); (have hpl := (HW.out.web.old hS.b).k.lt); clear hS; go_simp; first | done | exact rfl)); (case putfi8 => (first | (simp only [Act.put, List.setIfInBounds_toArray, List.set_cons_zero, List.set_cons_succ]; first | done | exact rfl) | rfl)); (case' nextfi8 => skip))
  (refine' GG.grow_lit (GG.NamS.still) rfl ?wtfi9 ?runfi9 ?putfi9 ?nextfi9; (case wtfi9 => rfl); (case runfi9 => (intro w' hS; (obtain ⟨dn, s, hS⟩ := hS); (obtain ⟨x0, x1, x2, x3, x4, -, -, -, -, -⟩ := (HW.out.web.old hS.b).k.o5); (have hpl := (HW.out.web.old hS.b).k.lt); clear hS; go_simp; first | done | exact rfl)); (case putfi9 => (first | (simp only [Act.put, List.setIfInBounds_toArray, List.set_cons_zero, List.set_cons_succ]; first | done | exact rfl) | rfl)); (case' nextfi9 => skip))
  (refine' GG.grow_lit (GG.NamS.still) rfl ?wtfi10 ?runfi10 ?putfi10 ?nextfi10; (case wtfi10 => rfl); (case runfi10 => (intro w' hS; (obtain ⟨dn, s, hS⟩ := hS); (obtain ⟨x0, x1, x2, x3, x4, -, -, -, -, -⟩ := (HW.out.web.old hS.b).k.o5); (have hpl := (HW.out.web.old hS.b).k.lt); clear hS; go_simp; first | done | exact rfl)); (case putfi10 => (first | (simp only [Act.put, List.setIfInBounds_toArray, List.set_cons_zero, List.set_cons_succ]; first | done | exact rfl) | rfl)); (case' nextfi10 => skip))
  (refine' GG.grow_lit (GG.NamS.still) rfl ?wtfi11 ?runfi11 ?putfi11 ?nextfi11; (case wtfi11 => rfl); (case runfi11 => (intro w' hS; (obtain ⟨dn, s, hS⟩ := hS); (obtain ⟨x0, x1, x2, x3, x4, -, -, -, -, -⟩ := (HW.out.web.old hS.b).k.o5); (have hpl := (HW.out.web.old hS.b).k.lt); clear hS; go_simp; first | done | exact rfl)); (case putfi11 => (first | (simp only [Act.put, List.setIfInBounds_toArray, List.set_cons_zero, List.set_cons_succ]; first | done | exact rfl) | rfl)); (case' nextfi11 => skip))
  (refine' GG.grow_any_op (p := NamB w 12 N (fun cs => cs = (List.replicate N (Value.int .i64 0)).toArray) 3) (hp := NamB.st) rfl ?wtfi12 ?runfi12 ?putfi12 ?nextfi12; (case wtfi12 => rfl); (case runfi12 => (intro dn s w' hS hd H; (have hb := below_alloc1 (w := w') (.cells (List.replicate N (Value.int .i64 0)).toArray 3)); (have hm := HMK.out w'); refine ⟨_, (12, w'.heap.size) :: s, w'.alloc (.cells (List.replicate N (Value.int .i64 0)).toArray 3), ?_, ⟨w'.heap.size, _, rfl, Blk.new _ _ _ _ rfl, rfl, hS.b.size, List.mem_cons_self⟩, hS.add hb 12 (Nat.le_refl _) (by simp), ⟨hb, fun _ h => List.mem_cons_of_mem _ h⟩, hb.size⟩; (clear hS H; go_simp))); (case putfi12 => (intro v; (simp only [Act.put, List.setIfInBounds_toArray, List.set_cons_zero, List.set_cons_succ]; first | done | exact rfl))); (case' nextfi12 => intro v12))
  (refine' GG.grow_any_op (p := NamT w p N (LevQ N E f 1 (setB A))) (hp := NamT.st) rfl ?wtfi13 ?runfi13 ?putfi13 ?nextfi13; (case wtfi13 => rfl); (case runfi13 => (intro dn s w' hS hd H; (obtain ⟨b6, cs6, e6, k6, ⟨off, rfl, hq⟩, l6, s6⟩ := (show NamB w 6 N (fun cs => ∃ off, cs = numI off ∧ LevQ N E f 1 (setB A) off) 3 v6 s w' from H 6 (by decide))); (obtain ⟨b12, cs12, e12, k12, rfl, l12, s12⟩ := (show NamB w 12 N (fun cs => cs = (List.replicate N (Value.int .i64 0)).toArray) 3 v12 s w' from H 12 (by decide))); subst e6 e12; refine ⟨_, s, w', ?_, ⟨b6, b12, off, rfl, k6, hq, k12, l6, l12, (fun e => by have := hS.inj _ _ s6 s12 e; simp at this)⟩, hS.same (Below.refl _ _), ⟨Below.refl _ _, fun _ h => h⟩, Nat.le_refl _⟩; (clear hS H; go_simp; first | done | rfl))); (case putfi13 => (intro v; (simp only [Act.put, List.setIfInBounds_toArray, List.set_cons_zero, List.set_cons_succ]; first | done | exact rfl))); (case' nextfi13 => intro v13))
  (refine' GG.grow_any_op (p := NamP w 14 #[.pointer none, .slice none 0 0, .slice none 0 0] 81) (hp := NamP.st) rfl ?wtfi14 ?runfi14 ?putfi14 ?nextfi14; (case wtfi14 => rfl); (case runfi14 => (intro dn s w' hS hd H; (have hb := below_alloc1 (w := w') (.cells #[.pointer none, .slice none 0 0, .slice none 0 0] 81)); refine ⟨_, (14, w'.heap.size) :: s, w'.alloc (.cells #[.pointer none, .slice none 0 0, .slice none 0 0] 81), ?_, ⟨w'.heap.size, rfl, Blk.new _ _ _ _ rfl, hS.b.size, List.mem_cons_self⟩, hS.add hb 14 (Nat.le_refl _) (by simp), ⟨hb, fun _ h => List.mem_cons_of_mem _ h⟩, hb.size⟩; (clear hS H; go_simp))); (case putfi14 => (intro v; (simp only [Act.put, List.setIfInBounds_toArray, List.set_cons_zero, List.set_cons_succ]; first | done | exact rfl))); (case' nextfi14 => intro v14))
  intro dn s w1 hS _ hk
  obtain ⟨ob, nb, off, rfl, kob, hlev, knb, hob, hnb, hon⟩ : NamT w p N (LevQ N E f 1 (setB A)) v13 s w1 := hk 13 (by decide)
  obtain ⟨tb, rfl, ktb, htb, -⟩ : NamP w 14 #[.pointer none, .slice none 0 0, .slice none 0 0] 81 v14 s w1 := hk 14 (by decide)
  have htn := blk_ne ktb knb (by decide)
  have hto := blk_ne ktb kob (by decide)
  have HB1 := Lib.hid hS.b
  have KOB := Lib.hid kob
  have KNB := Lib.hid knb
  have KTB := Lib.hid ktb
  have HLO := Lib.hid (And.intro hob (And.intro hnb htb))
  have HNE := Lib.hid (And.intro hon (And.intro htn hto))
  have HLEV := Lib.hid hlev
  obtain ⟨t0, t1, t2, f0, f1, f2⟩ := ktb.o3
  have htl := ktb.lt
  clear hS hk kob knb hob hnb htb hlev ktb hon htn hto DS0
  refine wpAny_ready (rs := [15]) (by kernel_rfl) (by simp) (AllReady.cons rfl (fun K hK => ?_) AllReady.nil)
  go_simp
  refine hK _ _ ?_
  clear hK K
  refine wpAny_done (by kernel_rfl) ?_ _
  clear t0 t1 t2 f0 f1 f2 htl
  obtain ⟨W2, hW2⟩ := named (((w1.setCell ⟨tb, 0, none⟩ (pt p)).setCell ⟨tb, 1, none⟩ (.slice (some ⟨ob, 0, none⟩) N N)).setCell ⟨tb, 2, none⟩ (.slice (some ⟨nb, 0, none⟩) N N))
  rw [← hW2]
  have hlo := HLO.out
  have hne := HNE.out
  have kt2 : Blk W2 tb #[pt p, .slice (some ⟨ob, 0, none⟩) N N, .slice (some ⟨nb, 0, none⟩) N N] 81 := by
    rw [hW2]
    have := ((KTB.out.set 0 (pt p)).set 1 (.slice (some ⟨ob, 0, none⟩) N N)).set 2 (.slice (some ⟨nb, 0, none⟩) N N)
    simpa using this
  have ko2 : Blk W2 ob (numI off) 3 := by rw [hW2]; exact ((KOB.out.other _ _ (fun e => hne.2.2 e.symm)).other _ _ (fun e => hne.2.2 e.symm)).other _ _ (fun e => hne.2.2 e.symm)
  have kn2 : Blk W2 nb (numI (List.replicate N 0)) 3 := by rw [hW2, numI_rep]; exact ((KNB.out.other _ _ (fun e => hne.2.1 e.symm)).other _ _ (fun e => hne.2.1 e.symm)).other _ _ (fun e => hne.2.1 e.symm)
  have hb2 : Below w.heap.size w W2 := by rw [hW2]; exact ((HB1.out.setCell hlo.2.2 _).setCell hlo.2.2 _).setCell hlo.2.2 _
  have hfl := HW.out.fk.lt
  have hkw := HW.out.kw
  have HT2 : Hid (TideM N E A B off ev (.slice sq N sc) dv us p tb ab ob nb fb W2 f (List.replicate N 0)) := Lib.hid ⟨(HW.out.web.old hb2).mono (fun b h => ⟨h.1, by omega⟩), kt2, ⟨by omega, by omega⟩, ko2, ⟨by omega, hne.1⟩, HLEV.out.len, HW.out.fk.keep hb2, HW.out.fl, kn2, by simp, by omega⟩
  have HB2 := Lib.hid hb2
  have HN0 : Hid (NInv N E (List.replicate N 0)) := Lib.hid ⟨by simp, fun u hu => by rw [nL_at (by simpa using hu)]; simp⟩
  have HR0 : Hid (FillRel N E A B off ev (.slice sq N sc) dv us p tb ab ob nb fb W2 f 0 (.int .i64 (0 : Nat)) W2) := Lib.hid ⟨0, f, _, rfl, HT2.out, Keep.refl _ _, HN0.out, HF.out, by omega, fun _ => ⟨rfl, fun u j i x y hu hj => by rw [nL_at (by simpa using hu)] at hj; simp at hj; omega, fun v hv => by omega⟩⟩
  have HOFF : Hid (∀ v, v < N → oL off v < N) := Lib.hid fun v hv => by rcases HLEV.out.sgn v hv with h | h <;> omega
  obtain ⟨x0, x1, x2, x3, x4, -, -, -, -, -⟩ := HT2.out.web.k.o5
  have hpl := HT2.out.web.k.lt
  clear hW2 hlo kt2 ko2 kn2 hb2 hfl hkw KTB KOB KNB HB1 HFI
  go_wp2_with fail
  clear x0 x1 x2 x3 x4 hpl
  go_loopw [4, 5, 6, 26] (fun s9 _ _ iv wr => FillOut N E A B off ev (.slice sq N sc) dv us p tb ab ob nb fb W2 f s9 iv wr) (fun _ _ _ iv _ => N - (intOf iv).toNat)
  case atStart => exact ⟨0, Nat.zero_le _, rfl, HR0.out⟩
  case round =>
    obtain ⟨k, hk, rfl, hrel⟩ := hrel
    have HREL := Lib.hid hrel
    obtain ⟨s0, f0, nx0, rfl, hT, -⟩ := hrel
    by_cases hlt : k < N
    case neg =>
      obtain rfl : k = N := by omega
      obtain ⟨s1, f1, nx1, e1, hT1, hk1, hn1, hf1, hv1, hs1⟩ := HREL.out
      have hs01 : s0 = s1 := by injection e1 with _ e1; omega
      subst hs01
      have hkp := Keep.pass HB2.out hk1 HLO.out.2.1
      have HP : Hid (FillPost K xb k E A B ev (.slice sq k sc) dv us p ab fb w f (.returned (.int .i64 s0)) wr) := Lib.hid ⟨s0, f1, rfl, ⟨HW.out.web.keep (hkp.mono (fun b h => h.1)), hT1.fk, hT1.fl, Nat.le_trans HW.out.kw hkp.size⟩, hkp, hf1, hv1, fun h => by
        obtain ⟨h1, h2, h3⟩ := hs1 h
        exact ⟨h1, none_reached HLEV.out h2 (fun v hv ha => h3 v hv ha)⟩⟩
      clear hT1 hk1 hn1 hf1 hv1 hs1 hkp hT HR0 HREL
      go_wp2_with fail
      go_ret
      exact HP.out
    have hki : (k : Int) < (N : Int) := by omega
    obtain ⟨sb, so, rfl, scl⟩ := hT.web.s.at (k := k) (by rw [HAL.out]; exact hlt)
    rw [← setB_at] at scl
    have hsl := World.block_lt_of_cell? wr _ scl
    clear hT HR0
    cases hA : setB A k with
    | false =>
      rw [hA] at scl
      have HR1 : Hid (FillRel N E A B off ev (.slice (some ⟨sb, so, none⟩) N sc) dv us p tb ab ob nb fb W2 f (k + 1) (.int .i64 s0) wr) := Lib.hid (by
        obtain ⟨s1, f1, nx1, e1, hT1, hk1, hn1, hf1, hv1, hs1⟩ := HREL.out
        refine ⟨s1, f1, nx1, e1, hT1, hk1, hn1, hf1, hv1, fun h => ⟨(hs1 h).1, (hs1 h).2.1, fun v hv ha => ?_⟩⟩
        by_cases hvk : v < k
        · exact (hs1 h).2.2 v hvk ha
        · obtain rfl : v = k := by omega
          rw [hA] at ha
          cases ha)
      clear hA HREL
      go_wp2_with fail
      go_loopw [4] (fun s9 wr2 => s9 = .int .i64 s0 ∧ wr2 = wr) (fun _ _ => 0)
      case atStart => exact ⟨rfl, rfl⟩
      case round =>
        obtain ⟨rfl, rfl⟩ := hrel
        go_wp2_with fail
        go_roundw
        case rel => exact ⟨k + 1, hlt, by go_num, HR1.out⟩
        case measure => simp [intOf]; omega
    | true =>
      rw [hA] at scl
      have HA := Lib.hid hA
      have hkN : k < N := hlt
      have ho0 : 0 ≤ oL off k := by
        have h1 := HLEV.out.mark k hkN hA
        rcases HLEV.out.sgn k hkN with h | h <;> omega
      clear hA
      go_wp2_with fail
      clear scl hsl
      go_loopw [4] (fun s9 wr2 => FillRel N E A B off ev (.slice (some ⟨sb, so, none⟩) N sc) dv us p tb ab ob nb fb W2 f k s9 wr2) (fun s9 _ => E.length - (intOf s9).toNat)
      case atStart => exact HREL.out
      case round =>
        obtain ⟨s1, f1, nx1, rfl, hT1, hk1, hn1, hf1, hv1, hs1⟩ := hrel
        have HT1 := Lib.hid hT1
        have HK1 := Lib.hid hk1
        have HF1 := Lib.hid hf1
        have HV1 := Lib.hid hv1
        have HS1 := Lib.hid hs1
        have hEI := hT1.web.ein
        have hmost := val_most hf1 hEI HAB.out
        have HMOST : Hid (s1 ≤ E.length) := Lib.hid (by omega)
        have HEI := Lib.hid hEI
        have hwr : IntKind.i64.wrap ((s1 : Int) + 1) = ((s1 + 1 : Nat) : Int) := by rw [IntWalk.i64_in _ (by omega)]; omega
        have HSEND := Lib.hid (send_is HOFF.out N k f1 nx1 wr hT1 hf1.ok hn1 hkN ho0 (by omega))
        clear hT1 hk1 hn1 hf1 hv1 hs1 hmost hEI HREL
        go_wp2_with fail
        refine HSEND.out.mono ?_
        rintro e w5 ⟨b9, f9, nx9, rfl, hT9, hk9, hn9, hg9, hsq, hdd⟩
        cases b9 with
        | true =>
          have hq := hsq rfl
          obtain ⟨hfl9, hval⟩ := val_send HAB.out HF1.out hq hkN HA.out
          have hmost := val_most hfl9 HEI.out HAB.out
          have hv9 := HV1.out
          have HR1 : Hid (FillRel N E A B off ev (.slice (some ⟨sb, so, none⟩) N sc) dv us p tb ab ob nb fb W2 f k (.int .i64 ((s1 + 1 : Nat) : Int)) w5) := Lib.hid ⟨s1 + 1, f9, nx9, rfl, hT9, HK1.out.trans hk9, hn9, hfl9, by rw [hval, hv9]; omega, fun h => by omega⟩
          have HM1 : Hid (s1 < E.length) := Lib.hid (by omega)
          clear hT9 hk9 hn9 hg9 hsq hdd hq hfl9 hval hmost hv9 HSEND
          go_wp2_with fail
          go_roundw
          case rel => exact HR1.out
          case measure => have := HM1.out; simp [intOf]; omega
        | false =>
          obtain ⟨hff, hdv, hdx⟩ := hdd rfl
          subst hff
          have HR1 : Hid (FillRel N E A B off ev (.slice (some ⟨sb, so, none⟩) N sc) dv us p tb ab ob nb fb W2 f (k + 1) (.int .i64 s1) w5) := Lib.hid ⟨s1, f9, nx9, rfl, hT9, HK1.out.trans hk9, hn9, HF1.out, HV1.out, fun h => by
            obtain ⟨h1, h2, h3⟩ := HS1.out h
            subst h1
            refine ⟨rfl, hdv h2, fun v hv ha => ?_⟩
            by_cases hvk : v < k
            · exact (h3 v hvk ha).grow (by omega) hn9 hg9.1
            · obtain rfl : v = k := by omega
              exact hdx⟩
          clear hT9 hk9 hn9 hg9 hsq hdd hdv hdx HSEND
          go_wp2_with fail
          go_roundw
          case rel => exact ⟨k + 1, hlt, by go_num, HR1.out⟩
          case measure => simp [intOf]; omega
end
end Go.Proofs.YtleheaffipokfaaDoor
