/-
  One heap that is made within a call; what the package knows at its start.
-/
import Derived.Test.YtmbeelakkiodaaaHpP
namespace Go.Proofs.Ytmbeelakkiodaaa
open Go.RowKit

/-- A heap made since w0, at w; what was at w0 is as it was. -/
structure H1 (w0 w : World) (p N : Nat) (m : Nat → Option Int) : Prop where
  b : Below w0.heap.size w0 w
  h : HpAt (fun b => w0.heap.size ≤ b) w p N m
section
variable {w0 w : World} {p N : Nat} {m m' : Nat → Option Int}
theorem H1.of (h : H1 w0 w p N m) {w' : World} (hh : HpAt (Plus (fun b => w0.heap.size ≤ b) w) w' p N m') (hk : Keep (fun b => ¬ w0.heap.size ≤ b) w w') : H1 w0 w' p N m' :=
  ⟨h.b.trans (hk.below (fun b hb hc => by omega) h.b.size), hh.mono fun b _ hb => hb.elim id fun hb => Nat.le_trans h.b.size hb⟩
theorem H1.old (h : H1 w0 w p N m) {w' : World} (hb : Below w.heap.size w w') : H1 w0 w' p N m := ⟨h.b.trans (hb.mono h.b.size), h.h.old hb⟩
theorem h1new (n : Int) (w0 w : World) (hb : Below w0.heap.size w0 w) (n0 : -9223372036854775808 ≤ n) (n1 : n ≤ 9223372036854775807) : Calls Try.prog 8 #[.int .i64 n] w fun e w' => ∃ p, e = .returned (hp p) ∧ H1 w0 w' p (keysN n) (fun _ => none) := by
  refine (hnew_any n w n0 n1).mono ?_
  rintro e w' ⟨p, rfl, h, hb2⟩
  exact ⟨p, rfl, hb.trans (hb2.mono hb.size), h.mono fun b _ hb3 => Nat.le_trans hb.size hb3⟩
theorem h1put (h : H1 w0 w p N m) (k c : Int) (k0 : -9223372036854775808 ≤ k) (k1 : k ≤ 9223372036854775807) (c0 : -9223372036854775808 ≤ c) (c1 : c ≤ 9223372036854775807) {B : Bool} (hB : putB N m k c = B) (hM : putM N m k c = m') :
    Calls Try.prog 10 #[hp p, .int .i64 k, .int .i64 c] w fun e w' => e = .returned (.bool B) ∧ H1 w0 w' p N m' := by
  subst hB; subst hM
  exact (vput h.h k c k0 k1 c0 c1).mono fun _ _ ⟨h1, h2, h3⟩ => ⟨h1, h.of h2 h3⟩
theorem h1pop (h : H1 w0 w p N m) {a b : Int} {o : Bool} (hV : popV N m = (a, b, o)) (hM : popM N m = m') :
    Calls Try.prog 12 #[hp p] w fun e w' => e = .returned (.tuple #[.int .i64 a, .int .i64 b, .bool o]) ∧ H1 w0 w' p N m' := by
  subst hM
  refine (vpop h.h).mono fun _ _ ⟨h1, h2, h3⟩ => ⟨?_, h.of h2 h3⟩
  rw [h1, hV]; rfl
theorem h1cost (h : H1 w0 w p N m) (k : Int) {a : Int} {o : Bool} (hV : costV N m k = (a, o)) :
    Calls Try.prog 18 #[hp p, .int .i64 k] w fun e w' => e = .returned (.tuple #[.int .i64 a, .bool o]) ∧ H1 w0 w' p N m := by
  refine (vcost h.h k).mono fun _ _ ⟨h1, h2⟩ => ⟨?_, h.old h2⟩
  rw [h1, hV]; rfl
theorem h1len (h : H1 w0 w p N m) {n : Nat} (hn : cnt m N = n) :
    Calls Try.prog 17 #[hp p] w fun e w' => e = .returned (.int .i64 n) ∧ w = w' := by
  subst hn
  exact vlen h.h
theorem h1clear (h : H1 w0 w p N m) :
    Calls Try.prog 14 #[hp p] w fun e w' => e = .returned (.tuple #[]) ∧ H1 w0 w' p N (fun _ => none) :=
  (vclear h.h).mono fun _ _ ⟨h1, h2, h3⟩ => ⟨h1, h.of h2 h3⟩
end
def kM0 : Nat → Option Int := fun _ => none
def kM1 : Nat → Option Int := putM 5 kM0 3 7
def kM2 : Nat → Option Int := putM 5 kM1 1 7
def kM3 : Nat → Option Int := putM 5 kM2 4 9
def kM4 : Nat → Option Int := putM 5 kM3 4 2
def kM5 : Nat → Option Int := putM 5 kM4 5 1
def kM6 : Nat → Option Int := putM 5 kM5 3 8
def kM7 : Nat → Option Int := popM 5 kM6
def kM8 : Nat → Option Int := popM 5 kM7
def kM9 : Nat → Option Int := popM 5 (fun _ => none)
def kM10 : Nat → Option Int := putM 5 kM9 3 8
set_option maxHeartbeats 4000000 in
set_option maxRecDepth 100000 in
theorem known7 (w : World) : Calls Try.prog 7 #[] w fun e w' => e = .returned (.bool true) ∧ Below w.heap.size w w' := by
  go_enter Try.func7, Try.ntmps7
  go_wp2_with fail
  refine (h1new 5 w w (Below.refl _ _) (by decide) (by decide)).mono ?_
  rintro e w_ ⟨p, rfl, h⟩
  have H : Hid (H1 w w_ p 5 kM0) := Lib.hid h
  clear h
  go_wp2_with fail
  refine (h1put H.out 3 7 (by decide) (by decide) (by decide) (by decide) (B := true) (m' := kM1) (by decide) rfl).mono ?_
  rintro e w_ ⟨rfl, h⟩
  clear H
  have H := Lib.hid h
  clear h
  go_wp2_with fail
  refine (h1put H.out 1 7 (by decide) (by decide) (by decide) (by decide) (B := true) (m' := kM2) (by decide) rfl).mono ?_
  rintro e w_ ⟨rfl, h⟩
  clear H
  have H := Lib.hid h
  clear h
  go_wp2_with fail
  refine (h1put H.out 4 9 (by decide) (by decide) (by decide) (by decide) (B := true) (m' := kM3) (by decide) rfl).mono ?_
  rintro e w_ ⟨rfl, h⟩
  clear H
  have H := Lib.hid h
  clear h
  go_wp2_with fail
  refine (h1put H.out 4 2 (by decide) (by decide) (by decide) (by decide) (B := true) (m' := kM4) (by decide) rfl).mono ?_
  rintro e w_ ⟨rfl, h⟩
  clear H
  have H := Lib.hid h
  clear h
  go_wp2_with fail
  refine (h1put H.out 5 1 (by decide) (by decide) (by decide) (by decide) (B := false) (m' := kM5) (by decide) rfl).mono ?_
  rintro e w_ ⟨rfl, h⟩
  clear H
  have H := Lib.hid h
  clear h
  go_wp2_with fail
  refine (h1put H.out 3 8 (by decide) (by decide) (by decide) (by decide) (B := false) (m' := kM6) (by decide) rfl).mono ?_
  rintro e w_ ⟨rfl, h⟩
  clear H
  have H := Lib.hid h
  clear h
  go_wp2_with fail
  refine (h1pop H.out (a := 4) (b := 2) (o := true) (m' := kM7) (by decide) rfl).mono ?_
  rintro e w_ ⟨rfl, h⟩
  clear H
  have H := Lib.hid h
  clear h
  go_wp2_with fail
  refine (h1pop H.out (a := 1) (b := 7) (o := true) (m' := kM8) (by decide) rfl).mono ?_
  rintro e w_ ⟨rfl, h⟩
  clear H
  have H := Lib.hid h
  clear h
  go_wp2_with fail
  refine (h1len H.out (n := 1) (by decide)).mono ?_
  rintro e w_ ⟨rfl, rfl⟩
  go_wp2_with fail
  refine (h1clear H.out).mono ?_
  rintro e w_ ⟨rfl, h⟩
  clear H
  have H := Lib.hid h
  clear h
  go_wp2_with fail
  refine (h1pop H.out (a := 0) (b := 0) (o := false) (m' := kM9) (by decide) rfl).mono ?_
  rintro e w_ ⟨rfl, h⟩
  clear H
  have H := Lib.hid h
  clear h
  go_wp2_with fail
  refine (h1cost H.out 3 (a := 0) (o := false) (by decide)).mono ?_
  rintro e w_ ⟨rfl, h⟩
  clear H
  have H := Lib.hid h
  clear h
  go_wp2_with fail
  refine (h1put H.out 3 8 (by decide) (by decide) (by decide) (by decide) (B := true) (m' := kM10) (by decide) rfl).mono ?_
  rintro e w_ ⟨rfl, h⟩
  clear H
  have H := Lib.hid h
  clear h
  go_wp2_with fail
  go_ret
  exact ⟨rfl, H.out.b⟩

end Go.Proofs.Ytmbeelakkiodaaa
