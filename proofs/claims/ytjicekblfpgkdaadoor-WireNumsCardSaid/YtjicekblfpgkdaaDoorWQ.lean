/-
  What a Reader reads: numbers, folded numbers, bytes.
-/
import Derived.Test.YtjicekblfpgkdaaDoorWR
namespace Go.Proofs.YtjicekblfpgkdaaDoor
open Go.RowKit

/-- A number of at most M, from place a on: it itself, the place behind, what was wrong. -/
def uintR (l : List Int) (a : Nat) (e : Int) (M : Int) : Int × Nat × Int :=
  if e = 0 then (if (rd (l.drop a)).2.2 = 0 then (if M < (rd (l.drop a)).1 then (0, a, 8) else ((rd (l.drop a)).1, a + (rd (l.drop a)).2.1, 0)) else (0, a, (rd (l.drop a)).2.2)) else (0, a, e)
/-- A folded one. -/
def intR (l : List Int) (a : Nat) (e : Int) (M : Int) : Int × Nat × Int :=
  if e = 0 then (if (rd (l.drop a)).2.2 = 0 then (if M < amtZ (rd (l.drop a)).1 then (0, a, 8) else (unfZ (rd (l.drop a)).1, a + (rd (l.drop a)).2.1, 0)) else (0, a, (rd (l.drop a)).2.2)) else (0, a, e)
/-- The next n bytes. -/
def bytesR (l : List Int) (a : Nat) (e : Int) (n : Int) : List Int × Nat × Int :=
  if e = 0 then (if n < 0 then ([], a, 1) else if (l.length : Int) - a < n then ([], a, 3) else ((l.drop a).take n.toNat, a + n.toNat, 0)) else ([], a, e)
def UPost (k : IntKind) (R : Int × Nat × Int) (w : World) (lo b : Nat) (l : List Int) (ev : Ending) (w' : World) : Prop :=
  ev = .returned (.int k R.1) ∧ RdV w' lo b l R.2.1 R.2.2 ∧ But b w w'
theorem upost_of {k : IntKind} {R : Int × Nat × Int} {w w' : World} {lo b c x : Nat} {q : Option Addr} {l : List Int} {V : Int} {a' : Nat} {e' : Int} (hr : R = (V, a', e')) (h : RdAt w' lo b q c x l a' e') (hb : But b w w') : UPost k R w lo b l (.returned (.int k V)) w' := by
  subst hr
  exact ⟨rfl, ⟨q, c, x, h⟩, hb⟩
theorem rd_err (l : List Int) : (rd l).2.2 = 0 ∨ (rd l).2.2 = 2 ∨ (rd l).2.2 = 3 := rdF_err 10 true l
/-- What is read ahead of the test. -/
theorem left_row {w : World} {lo b c x a : Nat} {q : Option Addr} {l : List Int} {e : Int} (h : RdAt w lo b q c x l a e) : U8s w (.slice (moved q c a) (l.length - a) (c - a)) (l.drop a) ∧ In8 (l.drop a) := ⟨⟨x, h.row.drop a h.le⟩, h.in8.drop a⟩

set_option maxRecDepth 100000 in
set_option maxHeartbeats 1000000 in
theorem uint_any {w : World} {lo b c x a : Nat} {q : Option Addr} {l : List Int} {e : Int} (h : RdAt w lo b q c x l a e) (M : Int) :
    Calls Tryd.prog 14 #[.pointer (some ⟨b, 0, none⟩), .int .u64 M] w (UPost .u64 (uintR l a e M) w lo b l) := by
  obtain ⟨R, hR⟩ : ∃ R, uintR l a e M = R := ⟨_, rfl⟩
  rw [hR]
  unfold uintR at hR
  have HE0 := Lib.hid (rd_err (l.drop a))
  have HO : Hid ((rd (l.drop a)).2.2 = 0 → (rd (l.drop a)).2.1 ≤ l.length - a) := Lib.hid (fun h0 => by have := (rd_once (h.in8.drop a) h0).2.2.1; rwa [List.length_drop] at this)
  have HL : ∀ w', Below w.heap.size w w' → U8s w' (.slice (moved q c a) (l.length - a) (c - a)) (l.drop a) ∧ In8 (l.drop a) := fun w' hb => left_row (h.below hb)
  have HLh := Lib.hid HL
  obtain ⟨rl, hrl⟩ : ∃ rl, rd (l.drop a) = rl := ⟨_, rfl⟩
  have HRL := Lib.hid hrl
  have hf : ∀ w', Below w.heap.size w w' → Calls Tryd.prog 26 #[.slice (moved q c a) (l.length - a) (c - a)] w' (fun ev w2 => ∃ V S : Int, ev = .returned (.tuple #[.int .u64 V, .int .i64 S, .int .i64 rl.2.2]) ∧ w' = w2 ∧ 0 ≤ V ∧ V ≤ 18446744073709551615 ∧ 0 ≤ S ∧ S ≤ 10 ∧ (rl.2.2 = 0 → V = rl.1 ∧ S = rl.2.1)) := fun w' hb => by
    obtain ⟨h1, h2⟩ := HL w' hb
    have := first_any _ _ w' h1 h2
    unfold FirstPost at this
    rw [hrl] at this
    exact this
  rw [hrl] at hR HE0 HO
  have HF := Lib.hid hf
  have HR := Lib.hid hR
  have hlen := h.few
  have hle := h.le
  have H := Lib.hid h
  clear hR hrl HL hf h HLh HRL
  obtain ⟨A, sz, E⟩ := rl
  simp only at HE0 HO HF HR
  go_enter Tryd.func14, Tryd.ntmps14
  go_wp2_with fail
  refine (left_any H.out).mono ?_
  rintro ev w1 ⟨rfl, hb⟩
  have H1 := Lib.hid (H.out.below hb)
  have B1 := Lib.hid (But.of_below (b := b) hb)
  have hb1 := Lib.hid hb
  clear hb
  go_wp2_with fail
  refine (HF.out _ hb1.out).mono ?_
  rintro ev w2 ⟨V, S, rfl, rfl, v0, v1, s0, s1, hv⟩
  have HV := Lib.hid hv
  clear hv
  by_cases hE : E = 0
  · subst hE
    obtain ⟨rfl, rfl⟩ := HV.out rfl
    have hsz := HO.out rfl
    by_cases hM : M < V
    · have HRR : Hid (R = (0, a, if e = 0 then 8 else e)) := Lib.hid (by rw [← HR.out]; by_cases he : e = 0 <;> simp [he, hM])
      go_wp2_with fail
      refine (pass_no H1.out _ 8 (by simp)).mono ?_
      rintro ev w3 ⟨rfl, hb3, h3⟩
      have HP : Hid (UPost .u64 R w lo b l (.returned (.int .u64 0)) w3) := Lib.hid (upost_of HRR.out h3 (B1.out.trans hb3))
      clear hb3 h3
      go_wp2_with fail
      go_ret
      exact HP.out
    · by_cases he : e = 0
      · have HRR : Hid (R = (V, a + sz, 0)) := Lib.hid (by rw [← HR.out]; simp [he, hM])
        subst he
        go_wp2_with fail
        refine (pass_ok H1.out sz (by omega)).mono ?_
        rintro ev w3 ⟨rfl, hb3, h3⟩
        have HP : Hid (UPost .u64 R w lo b l (.returned (.int .u64 V)) w3) := Lib.hid (upost_of HRR.out h3 (B1.out.trans hb3))
        clear hb3 h3
        go_wp2_with fail
        go_ret
        exact HP.out
      · have HRR : Hid (R = (0, a, e)) := Lib.hid (by rw [← HR.out]; simp [he])
        have HE := Lib.hid he
        clear he
        go_wp2_with fail
        refine (pass_no H1.out _ 0 (fun h => HE.out h.1)).mono ?_
        rintro ev w3 ⟨rfl, hb3, h3⟩
        rw [if_neg HE.out] at h3
        have HP : Hid (UPost .u64 R w lo b l (.returned (.int .u64 0)) w3) := Lib.hid (upost_of HRR.out h3 (B1.out.trans hb3))
        clear hb3 h3
        go_wp2_with fail
        go_ret
        exact HP.out
  · have HRR : Hid (R = (0, a, if e = 0 then E else e)) := Lib.hid (by rw [← HR.out]; by_cases he : e = 0 <;> simp [he, hE])
    have hn2 : (E == 0) = false := by simpa using hE
    have HN := Lib.hid hE
    clear hE HO HE0
    go_wp2_with fail
    refine (pass_no H1.out _ E (fun h => HN.out h.2)).mono ?_
    rintro ev w3 ⟨rfl, hb3, h3⟩
    have HP : Hid (UPost .u64 R w lo b l (.returned (.int .u64 0)) w3) := Lib.hid (upost_of HRR.out h3 (B1.out.trans hb3))
    clear hb3 h3
    go_wp2_with fail
    go_ret
    exact HP.out
set_option maxRecDepth 100000 in
set_option maxHeartbeats 1000000 in
theorem int_any {w : World} {lo b c x a : Nat} {q : Option Addr} {l : List Int} {e : Int} (h : RdAt w lo b q c x l a e) (M : Int) :
    Calls Tryd.prog 15 #[.pointer (some ⟨b, 0, none⟩), .int .u64 M] w (UPost .i64 (intR l a e M) w lo b l) := by
  obtain ⟨R, hR⟩ : ∃ R, intR l a e M = R := ⟨_, rfl⟩
  rw [hR]
  unfold intR at hR
  have HE0 := Lib.hid (rd_err (l.drop a))
  have HO : Hid ((rd (l.drop a)).2.2 = 0 → (rd (l.drop a)).2.1 ≤ l.length - a) := Lib.hid (fun h0 => by have := (rd_once (h.in8.drop a) h0).2.2.1; rwa [List.length_drop] at this)
  have HL : ∀ w', Below w.heap.size w w' → U8s w' (.slice (moved q c a) (l.length - a) (c - a)) (l.drop a) ∧ In8 (l.drop a) := fun w' hb => left_row (h.below hb)
  have HLh := Lib.hid HL
  obtain ⟨rl, hrl⟩ : ∃ rl, rd (l.drop a) = rl := ⟨_, rfl⟩
  have HRL := Lib.hid hrl
  have hf : ∀ w', Below w.heap.size w w' → Calls Tryd.prog 26 #[.slice (moved q c a) (l.length - a) (c - a)] w' (fun ev w2 => ∃ V S : Int, ev = .returned (.tuple #[.int .u64 V, .int .i64 S, .int .i64 rl.2.2]) ∧ w' = w2 ∧ 0 ≤ V ∧ V ≤ 18446744073709551615 ∧ 0 ≤ S ∧ S ≤ 10 ∧ (rl.2.2 = 0 → V = rl.1 ∧ S = rl.2.1)) := fun w' hb => by
    obtain ⟨h1, h2⟩ := HL w' hb
    have := first_any _ _ w' h1 h2
    unfold FirstPost at this
    rw [hrl] at this
    exact this
  rw [hrl] at hR HE0 HO
  have HF := Lib.hid hf
  have HR := Lib.hid hR
  have hlen := h.few
  have hle := h.le
  have H := Lib.hid h
  clear hR hrl HL hf h HLh HRL
  obtain ⟨A, sz, E⟩ := rl
  simp only at HE0 HO HF HR
  go_enter Tryd.func15, Tryd.ntmps15
  go_wp2_with fail
  refine (left_any H.out).mono ?_
  rintro ev w1 ⟨rfl, hb⟩
  have H1 := Lib.hid (H.out.below hb)
  have B1 := Lib.hid (But.of_below (b := b) hb)
  have hb1 := Lib.hid hb
  clear hb
  go_wp2_with fail
  refine (HF.out _ hb1.out).mono ?_
  rintro ev w2 ⟨V, S, rfl, rfl, v0, v1, s0, s1, hv⟩
  have HV := Lib.hid hv
  clear hv
  by_cases hE : E = 0
  · subst hE
    obtain ⟨rfl, rfl⟩ := HV.out rfl
    have hsz := HO.out rfl
    obtain ⟨t0, t1⟩ := amtZ_in v0 v1
    obtain ⟨z0, z1⟩ := unfZ_in v0 v1
    have HAM := Lib.hid (fun w' : World => amount_any V w' v0 v1)
    have HUN := Lib.hid (fun w' : World => unfold_any V w' v0 v1)
    obtain ⟨T, hT⟩ : ∃ T, amtZ V = T := ⟨_, rfl⟩
    obtain ⟨Z, hZ⟩ : ∃ Z, unfZ V = Z := ⟨_, rfl⟩
    rw [hT] at HAM HR t0 t1
    rw [hZ] at HUN HR z0 z1
    clear hT hZ
    by_cases hM : M < T
    · have HRR : Hid (R = (0, a, if e = 0 then 8 else e)) := Lib.hid (by rw [← HR.out]; by_cases he : e = 0 <;> simp [he, hM])
      go_wp2_with fail
      refine (HAM.out _).mono ?_
      rintro ev w9 ⟨rfl, rfl⟩
      go_wp2_with fail
      refine (pass_no H1.out _ 8 (by simp)).mono ?_
      rintro ev w3 ⟨rfl, hb3, h3⟩
      have HP : Hid (UPost .i64 R w lo b l (.returned (.int .i64 0)) w3) := Lib.hid (upost_of HRR.out h3 (B1.out.trans hb3))
      clear hb3 h3
      go_wp2_with fail
      go_ret
      exact HP.out
    · by_cases he : e = 0
      · have HRR : Hid (R = (Z, a + sz, 0)) := Lib.hid (by rw [← HR.out]; simp [he, hM])
        subst he
        go_wp2_with fail
        refine (HAM.out _).mono ?_
        rintro ev w9 ⟨rfl, rfl⟩
        go_wp2_with fail
        refine (pass_ok H1.out sz (by omega)).mono ?_
        rintro ev w3 ⟨rfl, hb3, h3⟩
        have HP : Hid (UPost .i64 R w lo b l (.returned (.int .i64 Z)) w3) := Lib.hid (upost_of HRR.out h3 (B1.out.trans hb3))
        clear hb3 h3
        go_wp2_with fail
        refine (HUN.out _).mono ?_
        rintro ev w9 ⟨rfl, rfl⟩
        go_wp2_with fail
        go_ret
        exact HP.out
      · have HRR : Hid (R = (0, a, e)) := Lib.hid (by rw [← HR.out]; simp [he])
        have HE := Lib.hid he
        clear he
        go_wp2_with fail
        refine (HAM.out _).mono ?_
        rintro ev w9 ⟨rfl, rfl⟩
        go_wp2_with fail
        refine (pass_no H1.out _ 0 (fun h => HE.out h.1)).mono ?_
        rintro ev w3 ⟨rfl, hb3, h3⟩
        rw [if_neg HE.out] at h3
        have HP : Hid (UPost .i64 R w lo b l (.returned (.int .i64 0)) w3) := Lib.hid (upost_of HRR.out h3 (B1.out.trans hb3))
        clear hb3 h3
        go_wp2_with fail
        go_ret
        exact HP.out
  · have HRR : Hid (R = (0, a, if e = 0 then E else e)) := Lib.hid (by rw [← HR.out]; by_cases he : e = 0 <;> simp [he, hE])
    have hn2 : (E == 0) = false := by simpa using hE
    have HN := Lib.hid hE
    clear hE HO HE0
    go_wp2_with fail
    refine (pass_no H1.out _ E (fun h => HN.out h.2)).mono ?_
    rintro ev w3 ⟨rfl, hb3, h3⟩
    have HP : Hid (UPost .i64 R w lo b l (.returned (.int .i64 0)) w3) := Lib.hid (upost_of HRR.out h3 (B1.out.trans hb3))
    clear hb3 h3
    go_wp2_with fail
    go_ret
    exact HP.out

def BPost (R : List Int × Nat × Int) (w : World) (lo b : Nat) (l : List Int) (ev : Ending) (w' : World) : Prop :=
  ∃ v, ev = .returned v ∧ U8s w' v R.1 ∧ RdV w' lo b l R.2.1 R.2.2 ∧ But b w w'
set_option maxRecDepth 100000 in
set_option maxHeartbeats 1000000 in
theorem bytes_any {w : World} {lo b c x a : Nat} {q : Option Addr} {l : List Int} {e : Int} (h : RdAt w lo b q c x l a e) (n : Int) (n0 : -9223372036854775808 ≤ n) (n1 : n ≤ 9223372036854775807) :
    Calls Tryd.prog 23 #[.pointer (some ⟨b, 0, none⟩), .int .i64 n] w (BPost (bytesR l a e n) w lo b l) := by
  obtain ⟨R, hR⟩ : ∃ R, bytesR l a e n = R := ⟨_, rfl⟩
  rw [hR]
  unfold bytesR at hR
  have HR := Lib.hid hR
  have hlen := h.few
  have hle := h.le
  obtain ⟨hcap, -, -⟩ := h.cap
  have H := Lib.hid h
  clear hR h
  go_enter Tryd.func23, Tryd.ntmps23
  go_wp2_with fail
  refine (left_any H.out).mono ?_
  rintro ev w1 ⟨rfl, hb⟩
  have H1 := Lib.hid (H.out.below hb)
  have B1 := Lib.hid (But.of_below (b := b) hb)
  clear hb H
  obtain ⟨X, hX⟩ : ∃ X : Int, (if n < 0 then 1 else if ((l.drop a).length : Int) < n then 3 else 0) = X := ⟨_, rfl⟩
  have HLR := Lib.hid (left_row H1.out)
  have HEN := Lib.hid (enough_any _ _ n w1 HLR.out.1)
  rw [hX] at HEN
  have hll : (l.drop a).length = l.length - a := List.length_drop
  rw [hll] at hX
  by_cases hn : n < 0 ∨ (l.length : Int) - a < n ∨ ¬ e = 0
  · have hno : ¬ (e = 0 ∧ X = 0) := by
      rintro ⟨he, h0⟩
      rw [← hX] at h0
      by_cases h1 : n < 0
      · rw [if_pos h1] at h0; omega
      · rw [if_neg h1, if_pos (by omega)] at h0; omega
    have HRR : Hid (R = ([], a, if e = 0 then X else e)) := Lib.hid (by
      rw [← HR.out, ← hX]
      by_cases he : e = 0
      · rw [if_pos he, if_pos he]
        by_cases h1 : n < 0
        · rw [if_pos h1, if_pos h1]
        · rw [if_neg h1, if_neg h1, if_pos (by omega), if_pos (by omega)]
      · rw [if_neg he, if_neg he])
    have HN := Lib.hid hno
    clear hno hX hn
    go_wp2_with fail
    refine HEN.out.mono ?_
    rintro ev w2 ⟨rfl, rfl⟩
    go_wp2_with fail
    refine (pass_no H1.out _ X HN.out).mono ?_
    rintro ev w3 ⟨rfl, hb3, h3⟩
    have HP : Hid (BPost R w lo b l (.returned (.slice none 0 0)) w3) := Lib.hid (by
      rw [HRR.out]
      exact ⟨_, rfl, U8s.nil w3, ⟨q, c, x, h3⟩, B1.out.trans hb3⟩)
    clear hb3 h3
    go_wp2_with fail
    go_ret
    exact HP.out
  · obtain ⟨k, rfl⟩ := Int.eq_ofNat_of_zero_le (show 0 ≤ n by omega)
    have he : e = 0 := Classical.byContradiction fun h => hn (Or.inr (Or.inr h))
    have hk : a + k ≤ l.length := by omega
    obtain rfl : X = 0 := by rw [← hX, if_neg (by omega), if_neg (by omega)]
    subst he
    have HRR : Hid (R = ((l.drop a).take k, a + k, 0)) := Lib.hid (by
      rw [← HR.out, if_pos rfl, if_neg (by omega), if_neg (by omega)]
      rfl)
    clear hX hn n0
    go_wp2_with fail
    refine HEN.out.mono ?_
    rintro ev w2 ⟨rfl, rfl⟩
    go_wp2_with fail
    refine (pass_ok H1.out k hk).mono ?_
    rintro ev w3 ⟨rfl, hb3, h3⟩
    have H3 := Lib.hid h3
    have B3 := Lib.hid (B1.out.trans hb3)
    have HC : Hid (U8s w3 (.slice (moved q c a) k (c - a)) ((l.drop a).take k)) := Lib.hid ⟨x, (h3.row.drop a hle).take k (by omega)⟩
    clear hb3 h3
    go_wp2_with fail
    refine (clone_any _ _ _ HC.out (by rw [List.length_take]; omega)).mono ?_
    rintro ev w4 ⟨u, y, rfl, g1, g2, g3⟩
    have HP : Hid (BPost R w lo b l (.returned u) w4) := Lib.hid (by
      rw [HRR.out]
      exact ⟨_, rfl, ⟨y, g1⟩, ⟨q, c, x, (H3.out.below g3 :)⟩, B3.out.trans (But.of_below g3)⟩)
    clear g1 g2 g3
    go_wp2_with fail
    go_ret
    exact HP.out

end Go.Proofs.YtjicekblfpgkdaaDoor
