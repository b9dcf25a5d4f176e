/-
  The document's heap: Pop, NewHeap; all by values.
-/
import Derived.Test.YtmbeelakkiodaaaHpQ
namespace Go.Proofs.Ytmbeelakkiodaaa
open Go.RowKit

/-- The place of the least so far. -/
def atV (x : Option It) : Value := match x with
  | none => .int .i64 (-1)
  | some y => .int .i64 y.1
/-- Pop at a round's head. -/
def RPopRel (w : World) (N : Nat) (m : Nat → Option Int) (a b : Value) (wr : World) : Prop := ∃ k : Nat, k ≤ N ∧ b = .int .i64 k ∧ a = atV (lst m k) ∧ Below w.heap.size w wr
theorem lst_off {m : Nat → Option Int} {k : Nat} (h : m k = none) : lst m (k + 1) = lst m k := by
  show lstStep (lst m k) k (m k) = _
  rw [h]; rfl
theorem lst_first {m : Nat → Option Int} {k : Nat} {c : Int} (h : m k = some c) (hl : lst m k = none) : lst m (k + 1) = some (k, c) := by
  show lstStep (lst m k) k (m k) = _
  rw [h, hl]; rfl
theorem lst_less {m : Nat → Option Int} {k : Nat} {c : Int} {x : It} (h : m k = some c) (hl : lst m k = some x) (hc : c < x.2) : lst m (k + 1) = some (k, c) := by
  show lstStep (lst m k) k (m k) = _
  rw [h, hl]
  show (if c < x.2 then _ else _) = _
  rw [if_pos hc]
theorem lst_more {m : Nat → Option Int} {k : Nat} {c : Int} {x : It} (h : m k = some c) (hl : lst m k = some x) (hc : ¬ c < x.2) : lst m (k + 1) = some x := by
  show lstStep (lst m k) k (m k) = _
  rw [h, hl]
  show (if c < x.2 then _ else _) = _
  rw [if_neg hc]
theorem docM_inv {I : List Bool} {C : List Int} {k : Nat} {c : Int} (h : docM I C k = some c) : I[k]? = some true ∧ C[k]? = some c := by
  unfold docM at h
  split at h
  · rename_i e; exact ⟨e, h⟩
  · cases h
/-- What Pop answers, and leaves. -/
def RPopPost (S : Nat → Prop) (w : World) (p N gi gc : Nat) (I : List Bool) (C : List Int) (e : Ending) (w' : World) : Prop :=
  e = .returned (popT (popV N (docM I C))) ∧ Keep (fun b => ¬ S b) w w' ∧ ∃ I', DocS S w' p N gi gc I' C ∧ docM I' C = popM N (docM I C)
section
variable {S : Nat → Prop} {w w' : World} {p N gi gc : Nat} {I : List Bool} {C : List Int} {m : Nat → Option Int}

set_option maxHeartbeats 4000000 in
set_option maxRecDepth 100000 in
theorem rpop_any (h : DocS S w p N gi gc I C) (hN : N ≤ 16384) : Calls Try.prog 13 #[hp p] w (RPopPost S w p N gi gc I C) := by
  have H := Lib.hid h
  clear h
  go_enter Try.func13, Try.ntmps13
  go_wp2_with fail
  go_loopw [5, 6] (fun a b wr => RPopRel w N (docM I C) a b wr) (fun _ b _ => N - (intOf b).toNat)
  case atStart => exact ⟨0, Nat.zero_le _, rfl, rfl, Below.refl _ _⟩
  case round =>
    obtain ⟨k, hk, rfl, ha, hb⟩ := hrel
    obtain ⟨wo, rfl⟩ : ∃ wo : World, wo = wr := ⟨_, rfl⟩
    have HB := Lib.hid hb
    have H1 := Lib.hid (H.out.old hb)
    obtain ⟨c0, c1, -, -⟩ := H1.out.k.o2
    clear hb
    by_cases hlt : k < N
    · obtain ⟨b, hb⟩ : ∃ b, I[k]? = some b := ⟨_, List.getElem?_eq_getElem (by rw [H.out.il]; exact hlt)⟩
      obtain ⟨c, hc⟩ : ∃ c, C[k]? = some c := ⟨_, List.getElem?_eq_getElem (by rw [H.out.cl]; exact hlt)⟩
      have x0 := H1.out.ic hb
      have x1 := H1.out.cc hc
      have hki : (k : Int) < (N : Int) := by omega
      have hk64 : (k : Int) ≤ 16384 := by omega
      cases b with
      | false =>
        subst ha
        have HL : Hid (atV (lst (docM I C) k) = atV (lst (docM I C) (k + 1))) := Lib.hid (by rw [lst_off (docM_off hb)])
        clear hb hc H H1
        go_wp2_with fail
        go_quiet (fail)
        go_wp2_with fail
        go_roundw
        case rel => exact ⟨k + 1, hlt, by go_num, HL.out, below_drewN HB.out _⟩
        case measure => simp [intOf]; omega
      | true =>
        cases hl : lst (docM I C) k with
        | none =>
          have HL : Hid (Value.int .i64 k = atV (lst (docM I C) (k + 1))) := Lib.hid (by rw [lst_first (docM_in hb hc) hl]; rfl)
          rw [hl] at ha
          have ha' : _ = Value.int .i64 (-1) := ha
          subst ha'
          clear hb hc H H1 hl ha
          go_wp2_with fail
          go_quiet (fail)
          go_wp2_with fail
          go_roundw
          case rel => exact ⟨k + 1, hlt, by go_num, HL.out, below_drewN HB.out _⟩
          case measure => simp [intOf]; omega
        | some x =>
          obtain ⟨x1', x2', x3'⟩ := lst_of hl
          obtain ⟨i1, i2⟩ := docM_inv x2'
          have z1 := H1.out.cc i2
          have hxi : (x.1 : Int) < (N : Int) := by omega
          have hx0 : decide ((x.1 : Int) < 0) = false := by simp
          rw [hl] at ha
          have ha' : _ = Value.int .i64 x.1 := ha
          subst ha'
          by_cases hlc : c < x.2
          · have HL : Hid (Value.int .i64 k = atV (lst (docM I C) (k + 1))) := Lib.hid (by rw [lst_less (docM_in hb hc) hl hlc]; rfl)
            have hdc : decide (c < x.2) = true := by simpa using hlc
            clear hb hc H H1 hl ha i1 i2 x1' x2' x3' hlc
            go_wp2_with fail
            go_quiet (fail)
            go_wp2_with fail
            go_roundw
            case rel => exact ⟨k + 1, hlt, by go_num, HL.out, below_drewN HB.out _⟩
            case measure => simp [intOf]; omega
          · have HL : Hid (Value.int .i64 x.1 = atV (lst (docM I C) (k + 1))) := Lib.hid (by rw [lst_more (docM_in hb hc) hl hlc]; rfl)
            have hdc : decide (c < x.2) = false := by simpa using hlc
            clear hb hc H H1 hl ha i1 i2 x1' x2' x3' hlc
            go_wp2_with fail
            go_quiet (fail)
            go_wp2_with fail
            go_roundw
            case rel => exact ⟨k + 1, hlt, by go_num, HL.out, below_drewN HB.out _⟩
            case measure => simp [intOf]; omega
    · obtain rfl : k = N := by omega
      have dk : decide (k < k) = false := by simp
      cases hl : lst (docM I C) k with
      | none =>
        rw [hl] at ha
        have ha' : _ = Value.int .i64 (-1) := ha
        subst ha'
        have HP : Hid (RPopPost S w p k gi gc I C (.returned (.tuple #[.int .i64 0, .int .i64 0, .bool false])) wo) := Lib.hid ⟨by unfold popV; rw [hl]; rfl, Keep.of HB.out, I, H1.out, by unfold popM; rw [hl]⟩
        clear hl ha H H1 HB hlt
        go_wp2_with fail
        go_ret3
        exact HP.out
      | some x =>
        obtain ⟨x1', x2', x3'⟩ := lst_of hl
        obtain ⟨i1, i2⟩ := docM_inv x2'
        have hxi : (x.1 : Int) < (k : Int) := by omega
        have hx0 : decide ((x.1 : Int) < 0) = false := by simp
        rw [hl] at ha
        have ha' : _ = Value.int .i64 x.1 := ha
        subst ha'
        have z0 := H1.out.ic i1
        have z1 := H1.out.cc i2
        have fz := H1.out.i.free x.1
        have hne : gi ≠ gc := blk_ne H1.out.i H1.out.c (by decide)
        obtain ⟨hs2, hk2⟩ := H1.out.setI x.1 false
        have HP : Hid (∀ n, RPopPost S w p k gi gc I C (.returned (.tuple #[.int .i64 x.1, .int .i64 x.2, .bool true])) ((wo.setCell ⟨gi, x.1, none⟩ (.bool false)).drewN n)) :=
          Lib.hid fun n => ⟨by unfold popV; rw [hl]; rfl, (Keep.of HB.out).trans (hk2.trans (Keep.of (below_drewN (Below.refl _ _) n))), I.set x.1 false, hs2.old (below_drewN (Below.refl _ _) n), by unfold popM; rw [hl]; exact docM_pop (by rw [H.out.il]; exact x1')⟩
        obtain ⟨w2, hw2⟩ := named (wo.setCell ⟨gi, x.1, none⟩ (.bool false))
        rw [← hw2] at HP hs2
        have E1 := Lib.hid (hs2.cc i2)
        obtain ⟨e0, e1, -, -⟩ := hs2.k.o2
        have HE0 := Lib.hid e0
        have HE1 := Lib.hid e1
        have HW2 := Lib.hid hw2.symm
        clear hl ha H H1 HB hlt hs2 hk2 x1' x2' x3' i1 i2 e0 e1 hw2
        go_wp2_with fail
        rw [HW2.out]
        have e0 := HE0.out
        have e1 := HE1.out
        have e2 := E1.out
        clear c0 c1 z0 z1 fz HW2
        go_quiet (fail)
        go_wp2_with fail
        go_ret3
        exact HP.out _

theorem infoBool : (Try.prog.info? 4).map (fun i => (i.zero, i.size, i.bytes)) = some (some (.bool false), 1, 1) := by kernel_rfl
theorem infoI64 : (Try.prog.info? 2).map (fun i => (i.zero, i.size, i.bytes)) = some (some (.int .i64 0), 1, 8) := by kernel_rfl
def RNewPost (w : World) (N : Nat) (e : Ending) (w' : World) : Prop := ∃ p, e = .returned (hp p) ∧ DocAt (fun b => w.heap.size ≤ b) w' p N (fun _ => none) ∧ Below w.heap.size w w'
theorem docM_new (N : Nat) : docM (List.replicate N false) (List.replicate N 0) = fun _ => none := by
  funext k
  unfold docM
  rw [List.getElem?_replicate (a := false)]
  by_cases h : k < N
  · rw [if_pos h, if_neg (by simp)]
  · rw [if_neg h, if_neg (by simp)]
theorem rnewPost {w w1 : World} {N p gi gc : Nat} (hN : N ≤ 16384) (hb : Below w.heap.size w w1) (h1 : Blk w1 p #[.slice (some ⟨gi, 0, none⟩) N N, .slice (some ⟨gc, 0, none⟩) N N] 53) (h2 : Blk w1 gi (List.replicate N (Value.bool false)).toArray 4) (h3 : Blk w1 gc (List.replicate N (Value.int .i64 0)).toArray 2) (p0 : w.heap.size ≤ p) (p1 : w.heap.size ≤ gi) (p2 : w.heap.size ≤ gc) : RNewPost w N (.returned (hp p)) w1 :=
  ⟨p, rfl, ⟨hN, List.replicate N false, List.replicate N 0, gi, gc, ⟨h1, p0, by rw [List.map_replicate]; exact h2, p1, by rw [List.map_replicate]; exact h3, p2, List.length_replicate, List.length_replicate⟩, (docM_new N).symm⟩, hb⟩
theorem rnewA {w : World} {N : Nat} (hN : N ≤ 16384) : RNewPost w N (.returned (hp (w.heap.size + 1 + 1))) (((w.alloc (.cells (Array.replicate N (.bool false)) 4)).alloc (.cells (Array.replicate N (.int .i64 0)) 2)).alloc (.cells #[.slice (some ⟨w.heap.size, 0, none⟩) N N, .slice (some ⟨w.heap.size + 1, 0, none⟩) N N] 53)).drew := by
  rw [← List.toArray_replicate, ← List.toArray_replicate]
  exact rnewPost (gi := w.heap.size) (gc := w.heap.size + 1) hN ((((Below.refl _ _).alloc (Nat.le_refl _) _).alloc (by simp) _).alloc (by simp; omega) _).drew (Blk.new _ _ _ _ (by simp)).drew (((Blk.new _ _ _ _ rfl).old _).old _).drew ((Blk.new _ _ _ _ (by simp)).old _).drew (by omega) (by omega) (by omega)
theorem rnewB {w : World} {N : Nat} (hN : N ≤ 16384) : RNewPost w N (.returned (hp (w.heap.size + 1 + 1))) (((w.alloc (.cells (Array.replicate N (.int .i64 0)) 2)).alloc (.cells (Array.replicate N (.bool false)) 4)).alloc (.cells #[.slice (some ⟨w.heap.size + 1, 0, none⟩) N N, .slice (some ⟨w.heap.size, 0, none⟩) N N] 53)).drew := by
  rw [← List.toArray_replicate, ← List.toArray_replicate]
  exact rnewPost (gi := w.heap.size + 1) (gc := w.heap.size) hN ((((Below.refl _ _).alloc (Nat.le_refl _) _).alloc (by simp) _).alloc (by simp; omega) _).drew (Blk.new _ _ _ _ (by simp)).drew ((Blk.new _ _ _ _ (by simp)).old _).drew (((Blk.new _ _ _ _ rfl).old _).old _).drew (by omega) (by omega) (by omega)
set_option maxHeartbeats 2000000 in
set_option maxRecDepth 100000 in
theorem rnew0 (n : Int) (N : Nat) (hN : N ≤ 16384) (w : World) (hn : (n < 0 ∧ N = 0) ∨ (¬ n < 0 ∧ 16384 < n ∧ N = 16384) ∨ (¬ n < 0 ∧ n ≤ 16384 ∧ n = N)) : Calls Try.prog 9 #[.int .i64 n] w (RNewPost w N) := by
  obtain ⟨z, hz⟩ : ∃ z : Int, z = (N : Int) := ⟨_, rfl⟩
  have hm1 : ∀ u, (Instr.makeSlice 51 (.int .i64 z) (.int .i64 z)).run Try.prog u = .ok (.slice (some ⟨u.heap.size, 0, none⟩) N N) (u.alloc (.cells (List.replicate N (.bool false)).toArray 4)) := fun u => by rw [hz]; exact make1 u 51 4 (.bool false) 1 rfl Try.underlying51 infoBool N hN (by decide)
  have hm2 : ∀ u, (Instr.makeSlice 36 (.int .i64 z) (.int .i64 z)).run Try.prog u = .ok (.slice (some ⟨u.heap.size, 0, none⟩) N N) (u.alloc (.cells (List.replicate N (.int .i64 0)).toArray 2)) := fun u => by rw [hz]; exact make1 u 36 2 (.int .i64 0) 8 rfl Try.underlying36 infoI64 N hN (by decide)
  rcases hn with ⟨hc, hd⟩ | ⟨hc, hd, he⟩ | ⟨hc, hd, he⟩
  · obtain rfl : z = 0 := by omega
    clear hz hd
    go_enter Try.func9, Try.ntmps9
    go_wp2_with fail
    go_region
    all_goals
      clear hm1 hm2
      go_wp2_with fail
      go_ret
      first
        | exact rnewA hN
        | exact rnewB hN
  · obtain rfl : z = 16384 := by omega
    clear hz he
    go_enter Try.func9, Try.ntmps9
    go_wp2_with fail
    go_region
    all_goals
      clear hm1 hm2
      go_wp2_with fail
      go_ret
      first
        | exact rnewA hN
        | exact rnewB hN
  · obtain rfl : z = n := by omega
    clear hz he
    go_enter Try.func9, Try.ntmps9
    go_wp2_with fail
    go_region
    all_goals
      clear hm1 hm2
      go_wp2_with fail
      go_ret
      first
        | exact rnewA hN
        | exact rnewB hN

theorem rnew_any (n : Int) (w : World) : Calls Try.prog 9 #[.int .i64 n] w (RNewPost w (keysN n)) := by
  refine rnew0 n _ (keysN_le n) w ?_
  unfold keysN
  by_cases h0 : n < 0
  · exact Or.inl ⟨h0, if_pos h0⟩
  · by_cases h1 : 16384 < n
    · exact Or.inr (Or.inl ⟨h0, h1, by rw [if_neg h0, if_pos h1]⟩)
    · exact Or.inr (Or.inr ⟨h0, by omega, by rw [if_neg h0, if_neg h1]; omega⟩)
theorem rvlen (h : DocAt S w p N m) : Calls Try.prog 25 #[hp p] w fun e w' => e = .returned (.int .i64 (cnt m N)) ∧ w = w' := by
  obtain ⟨hN, I, C, gi, gc, hs, rfl⟩ := h
  exact rlen_is hN hs
theorem docM_at {I : List Bool} {C : List Int} {k : Nat} (hi : k < I.length) (hc : k < C.length) : (I[k]? = some false ∧ docM I C k = none) ∨ ∃ d, I[k]? = some true ∧ C[k]? = some d ∧ docM I C k = some d := by
  obtain ⟨b, hb⟩ : ∃ b, I[k]? = some b := ⟨_, List.getElem?_eq_getElem hi⟩
  obtain ⟨d, hd⟩ : ∃ d, C[k]? = some d := ⟨_, List.getElem?_eq_getElem hc⟩
  cases b with
  | false => exact Or.inl ⟨hb, docM_off hb⟩
  | true => exact Or.inr ⟨d, hb, hd, docM_in hb hd⟩
theorem rvcost (h : DocAt S w p N m) (k : Int) : Calls Try.prog 26 #[hp p, .int .i64 k] w fun e w' => e = .returned (costT (costV N m k)) ∧ w = w' := by
  obtain ⟨hN, I, C, gi, gc, hs, rfl⟩ := h
  unfold costV
  by_cases h0 : k < 0
  · rw [if_pos (Or.inl h0)]
    exact rcost_neg hs k h0
  · by_cases h1 : (N : Int) ≤ k
    · rw [if_pos (Or.inr h1)]
      exact rcost_big hs k (by omega) h1
    · obtain ⟨j, rfl⟩ : ∃ j : Nat, k = j := ⟨k.toNat, by omega⟩
      rw [if_neg (by omega), Int.toNat_natCast]
      rcases docM_at (I := I) (C := C) (k := j) (by rw [hs.il]; omega) (by rw [hs.cl]; omega) with ⟨a, b⟩ | ⟨d, a, b, c⟩
      · rw [b]; exact rcost_off hs j a
      · rw [c]; exact rcost_in hs j d a b
theorem rvput (h : DocAt S w p N m) (k c : Int) (c0 : -9223372036854775808 ≤ c) (c1 : c ≤ 9223372036854775807) : Calls Try.prog 11 #[hp p, .int .i64 k, .int .i64 c] w fun e w' => e = .returned (.bool (putB N m k c)) ∧ DocAt S w' p N (putM N m k c) ∧ Keep (fun b => ¬ S b) w w' := by
  obtain ⟨hN, I, C, gi, gc, hs, rfl⟩ := h
  by_cases h0 : k < 0
  · have hB := putB_out (N := N) (m := docM I C) (c := c) (Or.inl h0)
    rw [hB, putM_false hB]
    exact (rput_neg hs k c h0).mono fun e w' h => ⟨h.1, ⟨hN, I, C, gi, gc, hs.old h.2, rfl⟩, Keep.of h.2⟩
  · by_cases h1 : (N : Int) ≤ k
    · have hB := putB_out (N := N) (m := docM I C) (c := c) (Or.inr h1)
      rw [hB, putM_false hB]
      exact (rput_big hs k c (by omega) h1).mono fun e w' h => ⟨h.1, ⟨hN, I, C, gi, gc, hs.old h.2, rfl⟩, Keep.of h.2⟩
    · obtain ⟨j, rfl⟩ : ∃ j : Nat, k = j := ⟨k.toNat, by omega⟩
      have hj : j < N := by omega
      have hput : ∀ d, docM (I.set j true) (C.set j d) = upd (docM I C) j (some d) := fun d => docM_put d (by rw [hs.il]; exact hj) (by rw [hs.il, hs.cl])
      rcases docM_at (I := I) (C := C) (k := j) (by rw [hs.il]; exact hj) (by rw [hs.cl]; exact hj) with ⟨a, b⟩ | ⟨d, a, b, e⟩
      · have hB := putB_none (c := c) hj b
        obtain ⟨d, hd⟩ : ∃ d, C[j]? = some d := ⟨_, List.getElem?_eq_getElem (by rw [hs.cl]; exact hj)⟩
        rw [hB, putM_true hB]
        exact (rput_new hs hN j c d c0 c1 a hd).mono fun e w' h => ⟨h.1, ⟨hN, _, _, gi, gc, h.2.1, (hput _).symm⟩, h.2.2⟩
      · by_cases hlt : hld c < d
        · have hB : putB N (docM I C) j c = true := by rw [putB_some hj e]; exact decide_eq_true hlt
          rw [hB, putM_true hB]
          exact (rput_in hs hN j c d c0 c1 a b hlt).mono fun e w' h => ⟨h.1, ⟨hN, _, _, gi, gc, h.2.1, (hput _).symm⟩, h.2.2⟩
        · have hB : putB N (docM I C) j c = false := by rw [putB_some hj e]; exact decide_eq_false hlt
          rw [hB, putM_false hB]
          exact (rput_same hs hN j c d c0 c1 a b (by omega)).mono fun e w' h => ⟨h.1, ⟨hN, I, C, gi, gc, hs.old h.2, rfl⟩, Keep.of h.2⟩
theorem rvpop (h : DocAt S w p N m) : Calls Try.prog 13 #[hp p] w fun e w' => e = .returned (popT (popV N m)) ∧ DocAt S w' p N (popM N m) ∧ Keep (fun b => ¬ S b) w w' := by
  obtain ⟨hN, I, C, gi, gc, hs, rfl⟩ := h
  refine (rpop_any hs hN).mono ?_
  rintro e w' ⟨h1, h2, I', h3, h4⟩
  exact ⟨h1, ⟨hN, I', C, gi, gc, h3, h4.symm⟩, h2⟩
end

end Go.Proofs.Ytmbeelakkiodaaa
