/-
  Three heaps that have nothing to do with each other; which keys are new, or at less than ahead.
-/
import Derived.Test.YtmbeelakkiodaaaKnown7
import Derived.Test.YtmbeelakkiodaaaOne7
import Derived.Test.YtmbeelakkiodaaaHpL
namespace Go.Proofs.Ytmbeelakkiodaaa
open Go.ChangeShapes Go.WideShapes Go.ChangeAt Go.RowKit

/-- Three heaps made since w0, no block of one another's. -/
structure H3 (w0 w : World) (p q r : Nat) (ma mb mc : Nat → Option Int) : Prop where
  b : Below w0.heap.size w0 w
  e : ∃ S T U : Nat → Prop, HpAt S w p 256 ma ∧ HpAt T w q 256 mb ∧ HpAt U w r 256 mc ∧ (∀ b, S b → w0.heap.size ≤ b) ∧ (∀ b, T b → w0.heap.size ≤ b) ∧ (∀ b, U b → w0.heap.size ≤ b) ∧ (∀ b, S b → ¬ T b) ∧ (∀ b, S b → ¬ U b) ∧ ∀ b, T b → ¬ U b
section
variable {w0 w w' : World} {p q r : Nat} {a b c a' : Nat → Option Int}
theorem H3.old (h : H3 w0 w p q r a b c) (hb : Below w.heap.size w w') : H3 w0 w' p q r a b c := by
  obtain ⟨h1, S, T, U, h2, h3, h4, h5⟩ := h
  exact ⟨h1.trans (hb.mono h1.size), S, T, U, h2.old hb, h3.old hb, h4.old hb, h5⟩
theorem H3.sw (h : H3 w0 w p q r a b c) : H3 w0 w q p r b a c := by
  obtain ⟨h1, S, T, U, h2, h3, h4, h5, h6, h7, h8, h9, h10⟩ := h
  exact ⟨h1, T, S, U, h3, h2, h4, h6, h5, h7, fun b ht hs => h8 b hs ht, h10, h9⟩
theorem H3.sw3 (h : H3 w0 w p q r a b c) : H3 w0 w r q p c b a := by
  obtain ⟨h1, S, T, U, h2, h3, h4, h5, h6, h7, h8, h9, h10⟩ := h
  exact ⟨h1, U, T, S, h4, h3, h2, h7, h6, h5, fun b hu ht => h10 b ht hu, fun b hu hs => h9 b hs hu, fun b ht hs => h8 b hs ht⟩
theorem H3.of {S T U : Nat → Prop} (h1 : Below w0.heap.size w0 w) (h3 : HpAt T w q 256 b) (h4 : HpAt U w r 256 c) (h5 : ∀ b, S b → w0.heap.size ≤ b) (h6 : ∀ b, T b → w0.heap.size ≤ b) (h7 : ∀ b, U b → w0.heap.size ≤ b) (h8 : ∀ b, S b → ¬ T b) (h9 : ∀ b, S b → ¬ U b) (h10 : ∀ b, T b → ¬ U b) (hh : HpAt (Plus S w) w' p 256 a') (hk : Keep (fun b => ¬ S b) w w') : H3 w0 w' p q r a' b c :=
  ⟨h1.trans (hk.below (fun b hb hc => by have := h5 b hc; omega) h1.size), Plus S w, fun b => T b ∧ b < w.heap.size, fun b => U b ∧ b < w.heap.size, hh, (h3.mono fun b hl hs => ⟨hs, hl⟩).keep hk (fun b _ ht hs => h8 b hs ht.1), (h4.mono fun b hl hs => ⟨hs, hl⟩).keep hk (fun b _ ht hs => h9 b hs ht.1),
    fun b hb => hb.elim (h5 b) (fun hb => Nat.le_trans h1.size hb), fun b hb => h6 b hb.1, fun b hb => h7 b hb.1, fun b hb ht => hb.elim (fun hs => h8 b hs ht.1) (fun hs => by have := ht.2; omega), fun b hb ht => hb.elim (fun hs => h9 b hs ht.1) (fun hs => by have := ht.2; omega), fun b hb ht => h10 b hb.1 ht.1⟩
theorem h3put (h : H3 w0 w p q r a b c) (k y : Int) (k0 : -9223372036854775808 ≤ k) (k1 : k ≤ 9223372036854775807) (c0 : -9223372036854775808 ≤ y) (c1 : y ≤ 9223372036854775807) :
    Calls Try.prog 10 #[hp p, .int .i64 k, .int .i64 y] w fun e w' => e = .returned (.bool (putB 256 a k y)) ∧ H3 w0 w' p q r (putM 256 a k y) b c ∧ w.heap.size ≤ w'.heap.size := by
  obtain ⟨h1, S, T, U, h2, h3, h4, h5, h6, h7, h8, h9, h10⟩ := h
  exact (vput h2 k y k0 k1 c0 c1).mono fun _ _ ⟨x, y, z⟩ => ⟨x, H3.of h1 h3 h4 h5 h6 h7 h8 h9 h10 y z, z.size⟩
theorem h3pop (h : H3 w0 w p q r a b c) :
    Calls Try.prog 12 #[hp p] w fun e w' => e = .returned (popT (popV 256 a)) ∧ H3 w0 w' p q r (popM 256 a) b c := by
  obtain ⟨h1, S, T, U, h2, h3, h4, h5, h6, h7, h8, h9, h10⟩ := h
  exact (vpop h2).mono fun _ _ ⟨x, y, z⟩ => ⟨x, H3.of h1 h3 h4 h5 h6 h7 h8 h9 h10 y z⟩
theorem h3clear (h : H3 w0 w p q r a b c) :
    Calls Try.prog 14 #[hp p] w fun e w' => e = .returned (.tuple #[]) ∧ H3 w0 w' p q r (fun _ => none) b c := by
  obtain ⟨h1, S, T, U, h2, h3, h4, h5, h6, h7, h8, h9, h10⟩ := h
  exact (vclear h2).mono fun _ _ ⟨x, y, z⟩ => ⟨x, H3.of h1 h3 h4 h5 h6 h7 h8 h9 h10 y z⟩
theorem h3len (h : H3 w0 w p q r a b c) : Calls Try.prog 17 #[hp p] w fun e w' => e = .returned (.int .i64 (cnt a 256)) ∧ w = w' := by
  obtain ⟨h1, S, T, U, h2, h3⟩ := h
  exact vlen h2
/-- How long the row is, as it lies in memory. -/
def rowLen (w : World) (p : Nat) : Nat := match w.cell? ⟨p, 0, none⟩ with
  | some (.slice _ n _) => n
  | _ => 0
theorem H3.len (h : H3 w0 w p q r a b c) : rowLen w p = cnt a 256 := by
  obtain ⟨h1, S, T, U, ⟨hN, R, P, rv, pv, hs, hh⟩, h3⟩ := h
  obtain ⟨⟨q, c, rfl, -⟩, -⟩ := hs.shape
  unfold rowLen
  rw [(Blk.o2 hs.k).1, ← hh.con.rl]
end

/-- What m says of the first k of these keys and costs. -/
def Told (m : Nat → Option Int) (l c : List Int) (k : Nat) : Prop := ∀ (j : Nat) (t : Int), (∃ d, m j = some d ∧ d ≤ t) ↔ ∃ i, i < k ∧ ∃ y, l[i]? = some (j : Int) ∧ c[i]? = some y ∧ hld y ≤ t
theorem Told.zero (l c : List Int) : Told (fun _ => none) l c 0 := fun j t => ⟨fun ⟨d, h, _⟩ => (by cases h), fun ⟨i, h, _⟩ => (by omega)⟩
theorem Told.step {m : Nat → Option Int} {l c : List Int} {k xn : Nat} {y : Int} (h : Told m l c k) (hx : l[k]? = some (xn : Int)) (hy : c[k]? = some y) (hxn : xn < 256) : Told (putM 256 m xn y) l c (k + 1) := by
  intro j t
  have key : (∃ d, putM 256 m xn y j = some d ∧ d ≤ t) ↔ (∃ d, m j = some d ∧ d ≤ t) ∨ (j = xn ∧ hld y ≤ t) := by
    by_cases e : j = xn
    · subst e
      cases hm : m j with
      | none =>
        rw [putM_true (putB_none hxn hm), upd_at]
        constructor
        · rintro ⟨d, hd, ht⟩
          injection hd with hd
          exact Or.inr ⟨rfl, by omega⟩
        · rintro (⟨d, hd, -⟩ | ⟨-, ht⟩)
          · cases hd
          · exact ⟨_, rfl, ht⟩
      | some d0 =>
        by_cases hlt : hld y < d0
        · rw [putM_true (by rw [putB_some hxn hm]; exact decide_eq_true hlt), upd_at]
          constructor
          · rintro ⟨d, hd, ht⟩
            injection hd with hd
            exact Or.inr ⟨rfl, by omega⟩
          · rintro (⟨d, hd, ht⟩ | ⟨-, ht⟩)
            · injection hd with hd
              exact ⟨_, rfl, by omega⟩
            · exact ⟨_, rfl, ht⟩
        · rw [putM_false (by rw [putB_some hxn hm]; exact decide_eq_false hlt), hm]
          constructor
          · rintro ⟨d, hd, ht⟩
            exact Or.inl ⟨d, hd, ht⟩
          · rintro (⟨d, hd, ht⟩ | ⟨-, ht⟩)
            · exact ⟨d, hd, ht⟩
            · exact ⟨d0, rfl, by omega⟩
    · have hne : putM 256 m xn y j = m j := by
        unfold putM
        split
        · rw [upd_ne _ _ (by rw [Int.toNat_natCast]; exact e)]
        · rfl
      rw [hne]
      exact ⟨Or.inl, fun h => h.elim id fun ⟨e', _⟩ => absurd e' e⟩
  rw [key, h j t]
  constructor
  · rintro (⟨i, hi, z, h1, h2, h3⟩ | ⟨rfl, ht⟩)
    · exact ⟨i, by omega, z, h1, h2, h3⟩
    · exact ⟨k, by omega, y, hx, hy, ht⟩
  · rintro ⟨i, hi, z, h1, h2, h3⟩
    by_cases e : i = k
    · subst e
      rw [hx] at h1
      rw [hy] at h2
      injection h1 with h1
      injection h2 with h2
      subst h2
      exact Or.inr ⟨by omega, h3⟩
    · exact Or.inl ⟨i, by omega, z, h1, h2, h3⟩
/-- Is a key new, or at less than ahead? -/
def hitB (l c : List Int) (x d : Int) (i : Nat) : Bool := decide (l[i]? = some x) && (match c[i]? with
  | some y => decide (hld y ≤ hld d)
  | none => false)
def firstB (l c : List Int) (k : Nat) (x d : Int) : Bool := !((List.range k).any (hitB l c x d))
theorem hitB_iff {l c : List Int} {x d : Int} {i : Nat} : hitB l c x d i = true ↔ ∃ y, l[i]? = some x ∧ c[i]? = some y ∧ hld y ≤ hld d := by
  unfold hitB
  cases hc : c[i]? with
  | none => simp
  | some y => simp
theorem firstB_iff {l c : List Int} {k : Nat} {x d : Int} : firstB l c k x d = true ↔ ¬ ∃ i, i < k ∧ ∃ y, l[i]? = some x ∧ c[i]? = some y ∧ hld y ≤ hld d := by
  unfold firstB
  rw [Bool.not_eq_true', Bool.eq_false_iff, ne_eq, List.any_eq_true]
  constructor
  · rintro h ⟨i, hi, hy⟩
    exact h ⟨i, List.mem_range.2 hi, hitB_iff.2 hy⟩
  · rintro h ⟨i, hi, hy⟩
    exact h ⟨i, List.mem_range.1 hi, hitB_iff.1 hy⟩
theorem firstB_not {l c : List Int} {k : Nat} {x d : Int} (h : ∃ i, i < k ∧ ∃ y, l[i]? = some x ∧ c[i]? = some y ∧ hld y ≤ hld d) : firstB l c k x d = false := by
  cases e : firstB l c k x d with
  | false => rfl
  | true => exact absurd h (firstB_iff.1 e)
theorem firstB_of {m : Nat → Option Int} {l c : List Int} {k xn : Nat} {y : Int} (h : Told m l c k) (hxn : xn < 256) : putB 256 m xn y = firstB l c k xn y := by
  rw [Bool.eq_iff_iff, firstB_iff, ← h xn (hld y)]
  cases hm : m xn with
  | none => rw [putB_none hxn hm]; simp
  | some d => rw [putB_some hxn hm]; simp

/-- first at a round's head. -/
def FirstRel (l c : List Int) (n : Nat) (x d : Int) (v : Value) : Prop := ∃ k : Nat, k ≤ n ∧ v = .int .i64 k ∧ ∀ i, i < k → ∀ y, l[i]? = some x → c[i]? = some y → ¬ hld y ≤ hld d
set_option maxHeartbeats 4000000 in
set_option maxRecDepth 100000 in
/-- l's and c's first n, by their slices. -/
theorem first_any {w : World} {b1 o1 b2 o2 c1 c2 n : Nat} {l c : List Int} (hn1 : n ≤ l.length) (hn2 : n ≤ c.length) (hn : n ≤ 80)
    (hl : ∀ i x, i < n → l[i]? = some x → w.cell? ⟨b1, o1 + i, none⟩ = some (.int .u8 x)) (hc : ∀ i x, i < n → c[i]? = some x → w.cell? ⟨b2, o2 + i, none⟩ = some (.int .i64 x)) (hic : In64 c) (x d : Int) (d0 : -9223372036854775808 ≤ d) (d1 : d ≤ 9223372036854775807) {B : Bool} (hB : firstB l c n x d = B) :
    Calls Try.prog 19 #[.slice (some ⟨b1, o1, none⟩) n c1, .int .u8 x, .slice (some ⟨b2, o2, none⟩) n c2, .int .i64 d] w fun e w' => e = .returned (.bool B) ∧ w = w' := by
  have HL := Lib.hid hl
  have HC := Lib.hid hc
  have HIC := Lib.hid hic
  have HBB := Lib.hid hB
  clear hl hc hic hB
  go_enter Try.func19, Try.ntmps19
  go_wp2_with fail
  go_loop [9] (fun v => FirstRel l c n x d v) (fun v => n - (intOf v).toNat)
  case atStart => exact ⟨0, Nat.zero_le _, rfl, fun i hi => by omega⟩
  case round =>
    obtain ⟨k, hk, rfl, hr⟩ := hrel
    by_cases hlt : k < n
    · obtain ⟨z, hz⟩ : ∃ z, l[k]? = some z := ⟨_, List.getElem?_eq_getElem (by omega)⟩
      obtain ⟨y, hy⟩ : ∃ y, c[k]? = some y := ⟨_, List.getElem?_eq_getElem (by omega)⟩
      have z0 := HL.out k z hlt hz
      have z1 := HC.out k y hlt hy
      obtain ⟨y0, y1⟩ := HIC.out y (List.mem_of_getElem? hy)
      have hki : (k : Int) < (n : Int) := by omega
      have hk64 : (k : Int) ≤ 80 := by omega
      by_cases hzx : z = x
      · subst hzx
        have dzx : (z == z) = true := by simp
        by_cases hle : hld y ≤ hld d
        · have HF : Hid (B = false) := Lib.hid (by rw [← HBB.out]; exact firstB_not ⟨k, hlt, y, hz, hy, hle⟩)
          have dle : decide (hld y ≤ hld d) = true := by simpa using hle
          clear hz hy hr hle
          go_wp2_with fail
          refine (rheld_any y _ y0 y1).mono ?_
          rintro e w1 ⟨rfl, rfl⟩
          go_wp2_with fail
          refine (rheld_any d _ d0 d1).mono ?_
          rintro e w1 ⟨rfl, rfl⟩
          go_wp2_with fail
          go_ret
          exact ⟨ret_bool HF.out.symm, rfl⟩
        · have dle : decide (hld y ≤ hld d) = false := by simpa using hle
          have HR : Hid (FirstRel l c n z d (.int .i64 ((k + 1 : Nat) : Int))) := Lib.hid ⟨k + 1, hlt, rfl, fun i hi y' h1 h2 => by
            by_cases e : i = k
            · subst e; rw [hy] at h2; injection h2 with h2; rw [← h2]; exact hle
            · exact hr i (by omega) y' h1 h2⟩
          clear hz hy hr hle
          go_wp2_with fail
          refine (rheld_any y _ y0 y1).mono ?_
          rintro e w1 ⟨rfl, rfl⟩
          go_wp2_with fail
          refine (rheld_any d _ d0 d1).mono ?_
          rintro e w1 ⟨rfl, rfl⟩
          go_wp2_with fail
          go_round
          case rel => exact HR.out
          case measure => simp [intOf]; omega
      · have dzx : (z == x) = false := by simpa using hzx
        have HR : Hid (FirstRel l c n x d (.int .i64 ((k + 1 : Nat) : Int))) := Lib.hid ⟨k + 1, hlt, rfl, fun i hi y' h1 h2 => by
          by_cases e : i = k
          · subst e; rw [hz] at h1; injection h1 with h1; exact absurd h1 hzx
          · exact hr i (by omega) y' h1 h2⟩
        clear hz hy hr hzx
        go_wp2_with fail
        go_round
        case rel => exact HR.out
        case measure => simp [intOf]; omega
    · have hkn : k = n := by omega
      have HF : Hid (B = true) := Lib.hid (by rw [← HBB.out]; exact firstB_iff.2 fun ⟨i, hi, y, h1, h2, h3⟩ => hr i (by omega) y h1 h2 h3)
      have hnl : ¬ (k : Int) < (n : Int) := by omega
      clear hr hlt
      go_wp2_with fail
      go_ret
      exact ⟨ret_bool HF.out.symm, rfl⟩

end Go.Proofs.Ytmbeelakkiodaaa
