/-
  The program's heap by values: what each call answers, and what is in behind it.
-/
import Derived.Test.YtmbeelakkiodaaaHpF
namespace Go.Proofs.Ytmbeelakkiodaaa
open Go.RowKit

/-- The blocks of S and those that are not there yet. -/
def Plus (S : Nat → Prop) (w : World) : Nat → Prop := fun b => S b ∨ w.heap.size ≤ b
section
variable {S : Nat → Prop} {w : World} {p N : Nat} {m : Nat → Option Int}
theorem putB_out {k c : Int} (h : k < 0 ∨ (N : Int) ≤ k) : putB N m k c = false := by unfold putB; rw [if_pos h]
theorem putB_none {k : Nat} {c : Int} (h : k < N) (hm : m k = none) : putB N m k c = true := by unfold putB; rw [if_neg (by omega), Int.toNat_natCast, hm]
theorem putB_some {k : Nat} {c d : Int} (h : k < N) (hm : m k = some d) : putB N m k c = decide (hld c < d) := by unfold putB; rw [if_neg (by omega), Int.toNat_natCast, hm]
theorem putM_false {k c : Int} (h : putB N m k c = false) : putM N m k c = m := by unfold putM; rw [h, if_neg (by simp)]
theorem putM_true {k : Nat} {c : Int} (h : putB N m k c = true) : putM N m k c = upd m k (some (hld c)) := by unfold putM; rw [h, if_pos rfl, Int.toNat_natCast]
theorem vput (h : HpAt S w p N m) (k c : Int) (k0 : -9223372036854775808 ≤ k) (k1 : k ≤ 9223372036854775807) (c0 : -9223372036854775808 ≤ c) (c1 : c ≤ 9223372036854775807) :
    Calls Try.prog 10 #[hp p, .int .i64 k, .int .i64 c] w fun e w' => e = .returned (.bool (putB N m k c)) ∧ HpAt (Plus S w) w' p N (putM N m k c) ∧ Keep (fun b => ¬ S b) w w' := by
  obtain ⟨hN, R, P, rv, pv, hs, hh⟩ := h
  have hpl := hh.con.pl
  by_cases hr : k < 0 ∨ (N : Int) ≤ k
  · have hB : putB N m k c = false := putB_out hr
    refine (hput_no hs k c (by rw [hpl]; omega)).mono ?_
    rintro e w' ⟨rfl, rfl⟩
    rw [hB, putM_false hB]
    exact ⟨rfl, ⟨hN, R, P, rv, pv, hs.mono fun _ _ h => Or.inl h, hh⟩, Keep.refl _ _⟩
  · obtain ⟨j, rfl⟩ : ∃ j : Nat, k = j := ⟨k.toNat, by omega⟩
    have hj : j < N := by omega
    cases hm : m j with
    | none =>
      have hB : putB N m j c = true := putB_none hj hm
      rw [hB, putM_true hB]
      exact (hput_new hs hh hN j c c0 c1 hm hj (hh.con.off j hj hm)).mono fun e w' h => h
    | some d =>
      by_cases hlt : hld c < d
      · have hB : putB N m j c = true := by rw [putB_some hj hm]; exact decide_eq_true hlt
        rw [hB, putM_true hB]
        exact (hput_low hs hh hN j c d c0 c1 hm hj hlt).mono fun e w' h => h
      · have hB : putB N m j c = false := by rw [putB_some hj hm]; exact decide_eq_false hlt
        rw [hB, putM_false hB]
        refine (hput_same hs hh hN j c d c0 c1 hm hj (by omega)).mono ?_
        rintro e w' ⟨rfl, hb⟩
        exact ⟨rfl, ⟨hN, R, P, rv, pv, (hs.old hb).mono fun _ _ h => Or.inl h, hh⟩, Keep.of hb⟩
def popT (x : Int × Int × Bool) : Value := .tuple #[.int .i64 x.1, .int .i64 x.2.1, .bool x.2.2]
def costT (x : Int × Bool) : Value := .tuple #[.int .i64 x.1, .bool x.2]
theorem Hpp.inv0 {R : List It} {P : List Int} (h : Hpp N R P m) : (R = [] ∧ lst m N = none) ∨ ∃ x, R[0]? = some x ∧ lst m N = some x := by
  cases R with
  | nil => exact Or.inl ⟨rfl, lst_zero (by have := h.con.rl; simpa using this.symm)⟩
  | cons x r => exact Or.inr ⟨x, rfl, h.least rfl⟩
theorem vpop (h : HpAt S w p N m) :
    Calls Try.prog 12 #[hp p] w fun e w' => e = .returned (popT (popV N m)) ∧ HpAt (Plus S w) w' p N (popM N m) ∧ Keep (fun b => ¬ S b) w w' := by
  obtain ⟨hN, R, P, rv, pv, hs, hh⟩ := h
  rcases hh.inv0 with ⟨rfl, hl⟩ | ⟨x, hx, hl⟩
  · refine (hpop_no hs).mono ?_
    rintro e w' ⟨rfl, rfl⟩
    unfold popV popM
    rw [hl]
    exact ⟨rfl, ⟨hN, [], P, rv, pv, hs.mono fun _ _ h => Or.inl h, hh⟩, Keep.refl _ _⟩
  · refine (hpop0 (S := fun b => S b ∧ b < w.heap.size) (fun _ h => h.2) (hs.mono fun _ h1 h2 => ⟨h2, h1⟩) hh hN x hx).mono ?_
    rintro e w' ⟨rfl, R2, P2, rv2, pv2, hs2, hh2, hk2⟩
    unfold popV popM
    rw [hl]
    exact ⟨rfl, ⟨hN, R2, P2, rv2, pv2, hs2.mono fun _ _ h => Or.inl h.1, hh2⟩, NotS.mono hk2⟩
theorem vcost (h : HpAt S w p N m) (k : Int) :
    Calls Try.prog 18 #[hp p, .int .i64 k] w fun e w' => e = .returned (costT (costV N m k)) ∧ Below w.heap.size w w' := by
  obtain ⟨hN, R, P, rv, pv, hs, hh⟩ := h
  have hpl := hh.con.pl
  by_cases hr : k < 0 ∨ (N : Int) ≤ k
  · refine (hcost_no hs k (by rw [hpl]; omega)).mono ?_
    rintro e w' ⟨rfl, rfl⟩
    unfold costV
    rw [if_pos hr]
    exact ⟨rfl, Below.refl _ _⟩
  · obtain ⟨j, rfl⟩ : ∃ j : Nat, k = j := ⟨k.toNat, by omega⟩
    have hj : j < N := by omega
    unfold costV
    rw [if_neg hr, Int.toNat_natCast]
    cases hm : m j with
    | none =>
      refine (hcost_off hs j (hh.con.off j hj hm)).mono ?_
      rintro e w' ⟨rfl, rfl⟩
      exact ⟨rfl, Below.refl _ _⟩
    | some d =>
      obtain ⟨i, hi⟩ := hh.con.back j d hm
      refine (hcost_in hs j i d (hh.con.row i _ hi).2.1 hi).mono ?_
      rintro e w' ⟨rfl, n, rfl⟩
      exact ⟨rfl, below_drewN (Below.refl _ _) n⟩
theorem vlen (h : HpAt S w p N m) : Calls Try.prog 17 #[hp p] w fun e w' => e = .returned (.int .i64 (cnt m N)) ∧ w = w' := by
  obtain ⟨hN, R, P, rv, pv, hs, hh⟩ := h
  rw [← hh.con.rl]
  exact hlen_any hs
theorem vclear (h : HpAt S w p N m) : Calls Try.prog 14 #[hp p] w fun e w' => e = .returned (.tuple #[]) ∧ HpAt (Plus S w) w' p N (fun _ => none) ∧ Keep (fun b => ¬ S b) w w' := by
  obtain ⟨hN, R, P, rv, pv, hs, hh⟩ := h
  refine (hclear0 (S := fun b => S b ∧ b < w.heap.size) (fun _ h => h.2) (hs.mono fun _ h1 h2 => ⟨h2, h1⟩) hh hN).mono ?_
  rintro e w' ⟨rfl, R2, P2, rv2, pv2, hs2, hh2, hk2⟩
  exact ⟨rfl, ⟨hN, R2, P2, rv2, pv2, hs2.mono fun _ _ h => Or.inl h.1, hh2⟩, NotS.mono hk2⟩
end

end Go.Proofs.Ytmbeelakkiodaaa
