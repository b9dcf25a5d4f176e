/-
  The program's heap and the document's, side by side; same.
-/
import Derived.Test.YtmbeelakkiodaaaKnown7
namespace Go.Proofs.Ytmbeelakkiodaaa
open Go.RowKit

theorem DocS.mono {S T : Nat → Prop} {w : World} {p N gi gc : Nat} {I : List Bool} {C : List Int} (h : DocS S w p N gi gc I C) (hq : ∀ b, b < w.heap.size → S b → T b) : DocS T w p N gi gc I C :=
  ⟨h.k, hq p h.k.lt h.p, h.i, hq gi h.i.lt h.iS, h.c, hq gc h.c.lt h.cS, h.il, h.cl⟩
theorem DocAt.mono {S T : Nat → Prop} {w : World} {p N : Nat} {m : Nat → Option Int} (h : DocAt S w p N m) (hq : ∀ b, b < w.heap.size → S b → T b) : DocAt T w p N m := by
  obtain ⟨hN, I, C, gi, gc, h1, h2⟩ := h
  exact ⟨hN, I, C, gi, gc, h1.mono hq, h2⟩
/-- Both heaps, made since w0, none of whose blocks is the other's, nor of X. -/
structure H2 (X : Nat → Prop) (w0 w : World) (p q N : Nat) (m d : Nat → Option Int) : Prop where
  b : Below w0.heap.size w0 w
  x : ∀ b, X b → b < w.heap.size
  e : ∃ S T : Nat → Prop, HpAt S w p N m ∧ DocAt T w q N d ∧ (∀ b, S b → w0.heap.size ≤ b) ∧ (∀ b, T b → w0.heap.size ≤ b) ∧ (∀ b, S b → ¬ T b) ∧ (∀ b, S b → ¬ X b) ∧ ∀ b, T b → ¬ X b
section
variable {X : Nat → Prop} {w0 w : World} {p q N : Nat} {m d m' : Nat → Option Int}
theorem H2.old (h : H2 X w0 w p q N m d) {w' : World} (hb : Below w.heap.size w w') : H2 X w0 w' p q N m d := by
  obtain ⟨h1, h2, S, T, h3, h4, h5⟩ := h
  exact ⟨h1.trans (hb.mono h1.size), fun b hx => Nat.lt_of_lt_of_le (h2 b hx) hb.size, S, T, h3.old hb, h4.old hb, h5⟩
theorem H2.unbox (h : H2 X w0 w p q N m d) : H2 (fun _ => False) w0 w p q N m d := by
  obtain ⟨h1, h2, S, T, h3, h4, h5, h6, h7, h8, h9⟩ := h
  exact ⟨h1, fun b hx => hx.elim, S, T, h3, h4, h5, h6, h7, fun _ _ h => h, fun _ _ h => h⟩
theorem H2.box (h : H2 X w0 w p q N m d) (o : Obj) : H2 (fun b => b = w.heap.size) w0 (w.alloc o) p q N m d := by
  obtain ⟨h1, h2, S, T, h3, h4, h5, h6, h7, h8, h9⟩ := h
  have hb : Below w.heap.size w (w.alloc o) := below_new _
  exact ⟨h1.trans (hb.mono h1.size), fun b hx => by rw [hx]; simp, fun b => S b ∧ b < w.heap.size, fun b => T b ∧ b < w.heap.size, (h3.mono fun b hl hs => ⟨hs, hl⟩).old hb, (h4.mono fun b hl hs => ⟨hs, hl⟩).old hb, fun b hs => h5 b hs.1, fun b hs => h6 b hs.1, fun b hs ht => h7 b hs.1 ht.1, fun b hs hx => by have := hs.2; omega, fun b hs hx => by have := hs.2; omega⟩
theorem h2heap {S T : Nat → Prop} {w' : World} (h1 : Below w0.heap.size w0 w) (h2 : ∀ b, X b → b < w.heap.size) (h4 : DocAt T w q N d) (h5 : ∀ b, S b → w0.heap.size ≤ b) (h6 : ∀ b, T b → w0.heap.size ≤ b) (h7 : ∀ b, S b → ¬ T b) (h8 : ∀ b, S b → ¬ X b) (h9 : ∀ b, T b → ¬ X b) (hh : HpAt (Plus S w) w' p N m') (hk : Keep (fun b => ¬ S b) w w') : H2 X w0 w' p q N m' d ∧ Keep X w w' :=
  ⟨⟨h1.trans (hk.below (fun b hb hc => by have := h5 b hc; omega) h1.size), fun b hx => Nat.lt_of_lt_of_le (h2 b hx) hk.size, Plus S w, fun b => T b ∧ b < w.heap.size, hh, (h4.mono fun b hl hs => ⟨hs, hl⟩).keep hk (fun b _ ht hs => h7 b hs ht.1),
    fun b hb => hb.elim (h5 b) (fun hb => Nat.le_trans h1.size hb), fun b hb => h6 b hb.1, fun b hb ht => hb.elim (fun hs => h7 b hs ht.1) (fun hs => by have := ht.2; omega), fun b hb hx => hb.elim (fun hs => h8 b hs hx) (fun hs => by have := h2 b hx; omega), fun b hb => h9 b hb.1⟩,
    hk.mono fun b hx hs => h8 b hs hx⟩
theorem h2doc {S T : Nat → Prop} {w' : World} {d' : Nat → Option Int} (h1 : Below w0.heap.size w0 w) (h2 : ∀ b, X b → b < w.heap.size) (h3 : HpAt S w p N m) (h5 : ∀ b, S b → w0.heap.size ≤ b) (h6 : ∀ b, T b → w0.heap.size ≤ b) (h7 : ∀ b, S b → ¬ T b) (h8 : ∀ b, S b → ¬ X b) (h9 : ∀ b, T b → ¬ X b) (hh : DocAt T w' q N d') (hk : Keep (fun b => ¬ T b) w w') : H2 X w0 w' p q N m d' ∧ Keep X w w' :=
  ⟨⟨h1.trans (hk.below (fun b hb hc => by have := h6 b hc; omega) h1.size), fun b hx => Nat.lt_of_lt_of_le (h2 b hx) hk.size, S, T, h3.keep hk (fun b _ hs ht => h7 b hs ht), hh, h5, h6, h7, h8, h9⟩, hk.mono fun b hx hs => h9 b hs hx⟩
theorem h2put (h : H2 X w0 w p q N m d) (k c : Int) (k0 : -9223372036854775808 ≤ k) (k1 : k ≤ 9223372036854775807) (c0 : -9223372036854775808 ≤ c) (c1 : c ≤ 9223372036854775807) :
    Calls Try.prog 10 #[hp p, .int .i64 k, .int .i64 c] w fun e w' => e = .returned (.bool (putB N m k c)) ∧ H2 X w0 w' p q N (putM N m k c) d ∧ Keep X w w' := by
  obtain ⟨h1, h2, S, T, h3, h4, h5, h6, h7, h8, h9⟩ := h
  exact (vput h3 k c k0 k1 c0 c1).mono fun _ _ ⟨a, b, e⟩ => ⟨a, h2heap h1 h2 h4 h5 h6 h7 h8 h9 b e⟩
theorem h2pop (h : H2 X w0 w p q N m d) :
    Calls Try.prog 12 #[hp p] w fun e w' => e = .returned (popT (popV N m)) ∧ H2 X w0 w' p q N (popM N m) d ∧ Keep X w w' := by
  obtain ⟨h1, h2, S, T, h3, h4, h5, h6, h7, h8, h9⟩ := h
  exact (vpop h3).mono fun _ _ ⟨a, b, e⟩ => ⟨a, h2heap h1 h2 h4 h5 h6 h7 h8 h9 b e⟩
theorem h2clear (h : H2 X w0 w p q N m d) :
    Calls Try.prog 14 #[hp p] w fun e w' => e = .returned (.tuple #[]) ∧ H2 X w0 w' p q N (fun _ => none) d ∧ Keep X w w' := by
  obtain ⟨h1, h2, S, T, h3, h4, h5, h6, h7, h8, h9⟩ := h
  exact (vclear h3).mono fun _ _ ⟨a, b, e⟩ => ⟨a, h2heap h1 h2 h4 h5 h6 h7 h8 h9 b e⟩
theorem h2rput (h : H2 X w0 w p q N m d) (k c : Int) (c0 : -9223372036854775808 ≤ c) (c1 : c ≤ 9223372036854775807) :
    Calls Try.prog 11 #[hp q, .int .i64 k, .int .i64 c] w fun e w' => e = .returned (.bool (putB N d k c)) ∧ H2 X w0 w' p q N m (putM N d k c) ∧ Keep X w w' := by
  obtain ⟨h1, h2, S, T, h3, h4, h5, h6, h7, h8, h9⟩ := h
  exact (rvput h4 k c c0 c1).mono fun _ _ ⟨a, b, e⟩ => ⟨a, h2doc h1 h2 h3 h5 h6 h7 h8 h9 b e⟩
theorem h2rpop (h : H2 X w0 w p q N m d) :
    Calls Try.prog 13 #[hp q] w fun e w' => e = .returned (popT (popV N d)) ∧ H2 X w0 w' p q N m (popM N d) ∧ Keep X w w' := by
  obtain ⟨h1, h2, S, T, h3, h4, h5, h6, h7, h8, h9⟩ := h
  exact (rvpop h4).mono fun _ _ ⟨a, b, e⟩ => ⟨a, h2doc h1 h2 h3 h5 h6 h7 h8 h9 b e⟩
/-- The document's heap is made anew. -/
theorem h2rnew (h : H2 X w0 w p q N m d) (n : Int) (hn : keysN n = N) :
    Calls Try.prog 9 #[.int .i64 n] w fun e w' => ∃ q', e = .returned (hp q') ∧ H2 X w0 w' p q' N m (fun _ => none) ∧ Keep X w w' := by
  obtain ⟨h1, h2, S, T, h3, h4, h5, h6, h7, h8, h9⟩ := h
  refine (rnew_any n w).mono ?_
  rintro e w' ⟨q', rfl, hd, hb⟩
  rw [hn] at hd
  exact ⟨q', rfl, ⟨h1.trans (hb.mono h1.size), fun b hx => Nat.lt_of_lt_of_le (h2 b hx) hb.size, fun b => S b ∧ b < w.heap.size, fun b => w.heap.size ≤ b, (h3.mono fun b hl hs => ⟨hs, hl⟩).old hb, hd, fun b hs => h5 b hs.1, fun b hb => Nat.le_trans h1.size hb, fun b hs ht => by have := hs.2; omega, fun b hs => h8 b hs.1, fun b hb hx => by have := h2 b hx; omega⟩, Keep.of hb⟩
/-- .. for the first time, beside a heap. -/
theorem h2first (h : H1 w0 w p N m) (n : Int) (hn : keysN n = N) :
    Calls Try.prog 9 #[.int .i64 n] w fun e w' => ∃ q', e = .returned (hp q') ∧ H2 (fun _ => False) w0 w' p q' N m (fun _ => none) := by
  refine (rnew_any n w).mono ?_
  rintro e w' ⟨q', rfl, hd, hb⟩
  rw [hn] at hd
  exact ⟨q', rfl, h.b.trans (hb.mono h.b.size), fun b hx => hx.elim, fun b => w0.heap.size ≤ b ∧ b < w.heap.size, fun b => w.heap.size ≤ b, (h.h.mono fun b hl hs => ⟨hs, hl⟩).old hb, hd, fun b hs => hs.1, fun b hb => Nat.le_trans h.b.size hb, fun b hs ht => by have := hs.2; omega, fun b _ h => h, fun b _ h => h⟩
end

/-- same at a round's head. -/
def SameRel (w : World) (v : Value) (wr : World) : Prop := ∃ k : Int, -1 ≤ k ∧ k ≤ 40 ∧ v = .int .i64 k ∧ Below w.heap.size w wr
theorem DocAt.o2 {S : Nat → Prop} {w : World} {p N : Nat} {m : Nat → Option Int} (h : DocAt S w p N m) : N ≤ 16384 ∧ ∃ gi gc, w.cell? ⟨p, 0, none⟩ = some (.slice (some ⟨gi, 0, none⟩) N N) ∧ w.cell? ⟨p, 1, none⟩ = some (.slice (some ⟨gc, 0, none⟩) N N) := by
  obtain ⟨hN, I, C, gi, gc, h1, h2⟩ := h
  obtain ⟨a, b, -, -⟩ := h1.k.o2
  exact ⟨hN, gi, gc, a, b⟩
set_option maxHeartbeats 8000000 in
set_option maxRecDepth 100000 in
theorem same_any {S T : Nat → Prop} {w : World} {p q N : Nat} {m : Nat → Option Int} (h : HpAt S w p N m) (hd : DocAt T w q N m) (k : Int) : Calls Try.prog 15 #[hp p, hp q, .int .i64 k] w fun e w' => e = .returned (.bool true) ∧ Below w.heap.size w w' := by
  have H := Lib.hid h
  have D := Lib.hid hd
  clear h hd
  go_enter Try.func15, Try.ntmps15
  go_wp2_with fail
  refine (vlen H.out).mono ?_
  rintro e w1 ⟨rfl, rfl⟩
  go_wp2_with fail
  refine (rvlen D.out).mono ?_
  rintro e w2 ⟨rfl, rfl⟩
  go_wp2_with fail
  go_loopw [7] (fun v wr => SameRel w v wr) (fun v _ => (40 - intOf v).toNat)
  case atStart => exact ⟨-1, by omega, by omega, rfl, Below.refl _ _⟩
  case round =>
    obtain ⟨j, hj0, hj1, rfl, hb⟩ := hrel
    obtain ⟨wo, rfl⟩ : ∃ wo : World, wo = wr := ⟨_, rfl⟩
    have HB := Lib.hid hb
    have H1 := Lib.hid (H.out.old hb)
    have D1 := Lib.hid (D.out.old hb)
    clear hb
    obtain ⟨hN, gi, gc, c0, c1⟩ := D1.out.o2
    by_cases hlt : j ≤ N ∧ j < 40
    · have d0 : decide (j ≤ (N : Int)) = true := by simpa using hlt.1
      have d1 : decide (j < 40) = true := by simpa using hlt.2
      have hj2 : j < 40 := hlt.2
      obtain ⟨A, O, hAO⟩ : ∃ A O, costV N m j = (A, O) := ⟨_, _, rfl⟩
      have HAO := Lib.hid hAO
      clear hAO hlt
      go_wp2_with fail
      refine (vcost H1.out j).mono ?_
      rw [HAO.out]
      unfold costT
      rintro e w3 ⟨rfl, hb3⟩
      have D3 := Lib.hid (D1.out.old hb3)
      have HB3 := Lib.hid (HB.out.trans (hb3.mono HB.out.size))
      clear hb3 c0 c1
      go_wp2_with fail
      refine (rvcost D3.out j).mono ?_
      rw [HAO.out]
      unfold costT
      rintro e w4 ⟨rfl, rfl⟩
      go_wp2_with fail
      go_roundw
      case rel => exact ⟨j + 1, by omega, by omega, by go_num, HB3.out⟩
      case measure => simp [intOf]; omega
    · have hor : (j ≤ (N : Int) ∧ decide (j < 40) = false) ∨ decide (j ≤ (N : Int)) = false := by
        by_cases e : j ≤ (N : Int)
        · exact Or.inl ⟨e, decide_eq_false fun e2 => hlt ⟨e, e2⟩⟩
        · exact Or.inr (decide_eq_false e)
      obtain ⟨A, O, hAO⟩ : ∃ A O, costV N m k = (A, O) := ⟨_, _, rfl⟩
      have HAO := Lib.hid hAO
      clear hAO hlt
      rcases hor with ⟨e0, e1⟩ | e0
      all_goals
        go_wp2_with fail
        refine (vcost H1.out k).mono ?_
        rw [HAO.out]
        unfold costT
        rintro e w3 ⟨rfl, hb3⟩
        have D3 := Lib.hid (D1.out.old hb3)
        have HB3 := Lib.hid (HB.out.trans (hb3.mono HB.out.size))
        clear hb3 c0 c1
        go_wp2_with fail
        refine (rvcost D3.out k).mono ?_
        rw [HAO.out]
        unfold costT
        rintro e w4 ⟨rfl, rfl⟩
        go_wp2_with fail
        go_ret
        exact ⟨rfl, HB3.out⟩

end Go.Proofs.Ytmbeelakkiodaaa
