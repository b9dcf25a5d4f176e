/-
  The document's Reader: what each of its calls answers, and what it leaves.
-/
import Derived.Test.YtjapdbegfanfiaaGreatDoorB6
import Derived.Test.YtjapdbegfanfiaaGreatDoorB5
namespace Go.Proofs.YtjapdbegfanfiaaGreatDoor
open Go.RowKit

/-- b is a Reader's block: over n bytes at q, at place a, e what was wrong first. -/
def R6 (w : World) (b : Nat) (q : Option Addr) (c n a : Nat) (e : Int) : Prop :=
  ∃ pv, Blk w b #[.slice q n c, .int .i64 a, pv, .int .i64 e] 74 ∧ ((e = 0 ∧ pv = .slice none 0 0) ∨ (¬ e = 0 ∧ ∃ p, pv = .slice (some ⟨p, 0, none⟩) 1 1 ∧ p ≠ b ∧ Blk w p #[.string byteB, .int .i64 a] 90))
theorem R6.below {w w' : World} {b : Nat} {q : Option Addr} {c n a : Nat} {e : Int} (h : R6 w b q c n a e) (hb : Below w.heap.size w w') : R6 w' b q c n a e := by
  obtain ⟨pv, h1, h2⟩ := h
  refine ⟨pv, h1.keep hb, ?_⟩
  rcases h2 with h2 | ⟨h2, p, h3, h4, h5⟩
  · exact Or.inl h2
  · exact Or.inr ⟨h2, p, h3, h4, h5.keep hb⟩
theorem R6.lt {w : World} {b : Nat} {q : Option Addr} {c n a : Nat} {e : Int} (h : R6 w b q c n a e) : b < w.heap.size := by
  obtain ⟨pv, h1, -⟩ := h
  exact h1.lt
/-- .. its bytes below lo. -/
def R6V (w : World) (lo b : Nat) (l : List Int) (a : Nat) (e : Int) : Prop := ∃ q c, R6 w b q c l.length a e ∧ OldB lo w (.slice q l.length c) l ∧ In8 l ∧ a ≤ l.length ∧ l.length ≤ 100000 ∧ lo ≤ b
theorem R6V.below {w w' : World} {lo b a : Nat} {l : List Int} {e : Int} (h : R6V w lo b l a e) (hb : Below w.heap.size w w') : R6V w' lo b l a e := by
  obtain ⟨q, c, h1, h2, h3⟩ := h
  exact ⟨q, c, h1.below hb, h2.below hb, h3⟩
theorem R6V.lt {w : World} {lo b a : Nat} {l : List Int} {e : Int} (h : R6V w lo b l a e) : lo ≤ b ∧ b < w.heap.size ∧ a ≤ l.length := by
  obtain ⟨q, c, h1, h2, h3, h4, h5, h6⟩ := h
  exact ⟨h6, h1.lt, h4⟩
/-- A byte of a row that came in. -/
theorem OldB.at {N : Nat} {w : World} {q : Option Addr} {c n : Nat} {l : List Int} (h : OldB N w (.slice q n c) l) (k : Nat) (hk : k < l.length) : ∃ x o, q = some ⟨x, o, none⟩ ∧ x < N ∧ w.cell? ⟨x, o + k, none⟩ = some (.int .u8 l[k]) := by
  obtain ⟨x, h1, h2⟩ := h
  rcases h1 with ⟨rfl, _⟩ | ⟨_, o, c', _, _, e, h3, hc⟩
  · simp at hk
  · injection e with e1 e2 e3
    rcases h2 with rfl | h2
    · simp at hk
    · exact ⟨x, o, e1, h2, hc k hk⟩

/-- fail, where nothing was wrong. -/
theorem fail6 {w : World} {lo b a : Nat} {l : List Int} (h : R6V w lo b l a 0) (e1 : Int) (he : ¬ e1 = 0) :
    Calls Tryz.prog 67 #[rp b, .int .i64 e1] w fun ev w' => ev = .returned (.tuple #[]) ∧ R6V w' lo b l a e1 ∧ But b w w' := by
  obtain ⟨q, c, ⟨pv, hk, hp⟩, hrow, h8, hle, hf, hlo⟩ := h
  obtain rfl : pv = .slice none 0 0 := by
    rcases hp with ⟨_, h⟩ | ⟨h, _⟩
    · exact h
    · exact absurd rfl h
  have HK := Lib.hid hk
  obtain ⟨c0, c1, c2, c3, f0, f1, f2, f3⟩ := hk.o4
  have HROW := Lib.hid hrow
  have H8 := Lib.hid h8
  clear hp hk hrow h8
  go_enter Tryz.func67, Tryz.ntmps67
  go_wp2_with fail
  refine (at_any _ _ _ _).mono ?_
  rintro ev w1 ⟨rfl, hw⟩
  have hw1 : w1 = atWorld byteB a e1 w := hw
  clear hw c0 c1 c2 c3 f0 f1 f2 f3
  have hb : Below w.heap.size w w1 := by rw [hw1]; exact atWorld_below _ _ _ _
  have hpb : Blk w1 (w.heap.size + 1) #[.string byteB, .int .i64 a] 90 := by rw [hw1]; exact Blk.new _ _ _ _ (by simp)
  have hk1 := HK.out.keep hb
  have hlt := HK.out.lt
  have HP : Hid (R6V ((w1.setCell ⟨b, 2, none⟩ (.slice (some ⟨w.heap.size + 1, 0, none⟩) 1 1)).setCell ⟨b, 3, none⟩ (.int .i64 e1)) lo b l a e1 ∧ But b w ((w1.setCell ⟨b, 2, none⟩ (.slice (some ⟨w.heap.size + 1, 0, none⟩) 1 1)).setCell ⟨b, 3, none⟩ (.int .i64 e1))) := by
    have hbt : But b w1 ((w1.setCell ⟨b, 2, none⟩ (.slice (some ⟨w.heap.size + 1, 0, none⟩) 1 1)).setCell ⟨b, 3, none⟩ (.int .i64 e1)) := ((But.refl b w1).setCell _ _).setCell _ _
    refine Lib.hid ⟨⟨q, c, ⟨.slice (some ⟨w.heap.size + 1, 0, none⟩) 1 1, ?_, Or.inr ⟨he, w.heap.size + 1, rfl, by omega, hbt.blk hpb (by omega)⟩⟩, (HROW.out.below hb).but hbt hlo, H8.out, hle, hf, hlo⟩, (But.of_below hb).trans hbt⟩
    have := (hk1.set 2 (.slice (some ⟨w.heap.size + 1, 0, none⟩) 1 1)).set 3 (.int .i64 e1)
    simpa using this
  obtain ⟨c0, c1, c2, c3, f0, f1, f2, f3⟩ := hk1.o4
  clear hw1 hb hpb hk1 hlt HK HROW H8
  go_wp2_with fail
  exact bodyPost_end (v := .tuple #[]) (by simp [results, Tryz.results67, go_sem]) rfl ⟨rfl, HP.out⟩

/-- What a Reader's Uint answers. -/
def U6Post (k : IntKind) (R : Int × Nat × Int) (w : World) (lo b : Nat) (l : List Int) (ev : Ending) (w' : World) : Prop := ev = .returned (.int k R.1) ∧ R6V w' lo b l R.2.1 R.2.2 ∧ But b w w'
theorem uint6_err {w : World} {lo b a : Nat} {l : List Int} {e : Int} (h : R6V w lo b l a e) (he : ¬ e = 0) (M : Int) : Calls Tryz.prog 28 #[rp b, .int .u64 M] w (U6Post .u64 (0, a, e) w lo b l) := by
  have HR := Lib.hid h
  obtain ⟨q, c, ⟨pv, hk, hp⟩, -⟩ := h
  obtain ⟨c0, c1, c2, c3, f0, f1, f2, f3⟩ := hk.o4
  have hn : (e != 0) = true := by simpa using he
  clear hp hk he
  go_enter Tryz.func28, Tryz.ntmps28
  go_wp2_with fail
  go_ret
  exact ⟨rfl, HR.out, But.refl _ _⟩

set_option maxRecDepth 100000 in
set_option maxHeartbeats 8000000 in
theorem uint6_ok {w : World} {lo b a : Nat} {l : List Int} (h : R6V w lo b l a 0) (M : Int) (R : Int × Nat × Int) (hR : uintR l a 0 M = R) : Calls Tryz.prog 28 #[rp b, .int .u64 M] w (U6Post .u64 R w lo b l) := by
  have HR := Lib.hid h
  obtain ⟨q, c, ⟨pv, hk, hp⟩, hrow, h8, hle, hf, hlo⟩ := h
  obtain rfl : pv = .slice none 0 0 := by
    rcases hp with ⟨_, h⟩ | ⟨h, _⟩
    · exact h
    · exact absurd rfl h
  unfold uintR at hR
  rw [if_pos rfl] at hR
  have HRR := Lib.hid hR
  have HK := Lib.hid hk
  have HROW := Lib.hid hrow
  have H8 := Lib.hid (h8.drop a)
  have h8' := h8
  have hlw : lo ≤ w.heap.size := by have := hk.lt; omega
  have hcap := hrow.cap.2
  have hll : (l.drop a).length = l.length - a := List.length_drop
  have hget : ∀ j (hj : j < (l.drop a).length), ∃ h : a + j < l.length, (l.drop a)[j] = l[a + j] := fun j hj => ⟨by omega, by rw [List.getElem_drop]⟩
  have HGET := Lib.hid hget
  obtain ⟨L, hL⟩ : ∃ L, l.drop a = L := ⟨_, rfl⟩
  rw [hL] at HRR H8 hll HGET
  obtain ⟨c0, c1, c2, c3, f0, f1, f2, f3⟩ := hk.o4
  clear hp hk hrow h8 hR hget hL
  go_enter Tryz.func28, Tryz.ntmps28
  go_wp2_with fail
  clear c0 c1 c2 c3 f0 f1 f2 f3
  go_loopw [5] (fun i wr => ∃ k : Nat, k ≤ 10 ∧ i = .int .i64 k ∧ Hid (Goes L k) ∧ Hid (Below w.heap.size w wr)) (fun i _ => 10 - (intOf i).toNat)
  case atStart => exact ⟨0, by omega, rfl, Lib.hid (Goes.zero L), Lib.hid (Below.refl _ _)⟩
  case round =>
    obtain ⟨k, hk10, rfl, HG, HB⟩ := hrel
    by_cases hk : k = 10
    · subst hk
      have HE : Hid (R = (0, a, 2)) := Lib.hid (by rw [← HRR.out, HG.out.form]; rfl)
      go_wp2_with fail
      have hGS : Grows (fun w' => Below wr.heap.size wr w') := Grows.below wr
      refine' wp_growL _ (fun w' => Below wr.heap.size wr w') [[], [0], [1], [2], [2, 3], [2, 4], [2, 5], [2], [2, 6, 7], [2], [2, 9], [2, 10], [2, 11], [2, 12], [2, 8, 13], [2, 14], [15], [16], [16, 17], [16, 18], [16, 19], [16], [16, 21], [16, 22], [16, 23], [16], [16, 24, 25], [16, 20, 26], [16, 27], [16, 28], [16, 29]] (Fact.lit _ :: Fact.lit _ :: Fact.lit _ :: Fact.lit _ :: Fact.lit _ :: Fact.lit _ :: Fact.lit _ :: Fact.lit _ :: Fact.lit _ :: Fact.lit _ :: Fact.lit _ :: Fact.lit _ :: Fact.lit _ :: Fact.lit _ :: Fact.lit _ :: Fact.lit _ :: Fact.lit _ :: Fact.lit _ :: Fact.lit _ :: Fact.lit _ :: Fact.lit _ :: Fact.lit _ :: Fact.lit _ :: Fact.lit _ :: Fact.lit _ :: Fact.lit _ :: Fact.lit _ :: Fact.lit _ :: Fact.lit _ :: Fact.lit _ :: Fact.lit _ :: []) (by kernel_rfl) rfl (by kernel_rfl) (Below.refl _ _).drew ?seqca
      case' seqca => skip
      iterate 31 ((first | (apply grow_skip; (case hf => rfl); (case hw => rfl)) | (apply grow_lit; (case hf => rfl); (case hw => rfl); (case hrun => (intro w' hS H; clear H; (obtain ⟨c0, c1, c2, c3, -, -, -, -⟩ := (HK.out.keep (bOn HB.out hS)).o4); clear hS; go_simp; first | done | exact rfl)))); (case hc => (simp only [Act.put, List.setIfInBounds_toArray, List.set_cons_zero, List.set_cons_succ]; first | done | exact rfl)); (try (case hj => rfl)))
      intro w1 hb _
      have HB1 := Lib.hid (bOn HB.out hb)
      clear hb hGS
      go_wp2_with fail
      refine (fail6 (HR.out.below HB1.out) 2 (by decide)).mono ?_
      rintro ev wf ⟨rfl, hr, hb⟩
      have HF : Hid (U6Post .u64 (0, a, 2) w lo b l (.returned (.int .u64 0)) wf) := Lib.hid ⟨rfl, hr, (But.of_below HB1.out).trans hb⟩
      clear hr hb
      go_wp2_with fail
      go_ret
      rw [HE.out]
      exact HF.out
    · have hk9 : k ≤ 9 := by omega
      have hki : (k : Int) < 10 := by omega
      have hkn : ((k : Int) == 10) = false := by simp; omega
      obtain ⟨A, hA⟩ : ∃ A : Nat, a + k = A := ⟨_, rfl⟩
      have hw1 : IntKind.i64.wrap ((a : Int) + (k : Int)) = A := by rw [← hA]; simp [IntKind.wrap, IntKind.bits, IntKind.signed]; omega
      have hAA := Lib.hid hA
      by_cases hlt : k < L.length
      · have hli : (A : Int) < (l.length : Int) := by omega
        have hAl : A < l.length := by omega
        obtain ⟨x, o, rfl, hx, hc⟩ := HROW.out.at A hAl
        obtain ⟨X, hX⟩ : ∃ X, L[k] = X := ⟨_, rfl⟩
        have hXX : l[A] = X := by obtain ⟨h1, h2⟩ := HGET.out k hlt; rw [← hX, h2]; simp only [hA]
        rw [hXX] at hc
        have GC : Hid (∀ w', Below w.heap.size w w' → w'.cell? ⟨x, o + A, none⟩ = some (.int .u8 X)) := Lib.hid (fun w' hb => (hb.cell (World.block_lt_of_cell? w _ hc)).trans hc)
        have hx8 := H8.out.at k hlt
        rw [hX] at hx8
        have HX := Lib.hid hX
        clear hc hX hXX hA
        by_cases hgo : 128 ≤ X
        · have hgo2 : decide (128 ≤ X) = true := decide_eq_true hgo
          have HG2 := Lib.hid (HG.out.more hlt (by rw [HX.out]; exact hgo))
          go_wp2_with fail
          have hGS : Grows (fun w' => Below wr.heap.size wr w') := Grows.below wr
          refine' wp_growL _ (fun w' => Below wr.heap.size wr w') [[], [0], [1], [2], [2, 3], [2, 4], [2, 5], [2], [2, 6, 7], [2], [2, 9], [2, 10], [2, 11], [2, 12], [2, 8, 13], [2, 14], [15], [16], [16, 17], [16, 18], [16, 19], [16], [16, 21], [16, 22], [16, 23], [16], [16, 24, 25], [16, 20, 26], [16, 27], [16, 28], [16, 29]] (Fact.lit _ :: Fact.lit _ :: Fact.lit _ :: Fact.lit _ :: Fact.lit _ :: Fact.lit _ :: Fact.lit _ :: Fact.lit _ :: Fact.lit _ :: Fact.lit _ :: Fact.lit _ :: Fact.lit _ :: Fact.lit _ :: Fact.lit _ :: Fact.lit _ :: Fact.lit _ :: Fact.lit _ :: Fact.lit _ :: Fact.lit _ :: Fact.lit _ :: Fact.lit _ :: Fact.lit _ :: Fact.lit _ :: Fact.lit _ :: Fact.lit _ :: Fact.lit _ :: Fact.lit _ :: Fact.lit _ :: Fact.lit _ :: Fact.lit _ :: Fact.lit _ :: []) (by kernel_rfl) rfl (by kernel_rfl) (Below.refl _ _).drew ?seqcb
          case' seqcb => skip
          iterate 31 ((first | (apply grow_skip; (case hf => rfl); (case hw => rfl)) | (apply grow_lit; (case hf => rfl); (case hw => rfl); (case hrun => (intro w' hS H; clear H; (obtain ⟨c0, c1, c2, c3, -, -, -, -⟩ := (HK.out.keep (bOn HB.out hS)).o4); (have g := GC.out w' (bOn HB.out hS)); clear hS; go_simp; first | done | exact rfl)))); (case hc => (simp only [Act.put, List.setIfInBounds_toArray, List.set_cons_zero, List.set_cons_succ]; first | done | exact rfl)); (try (case hj => rfl)))
          intro w1 hb _
          have HB1 := Lib.hid (bOn HB.out hb)
          clear hb hGS
          go_wp2_with fail
          go_roundw
          case rel => exact ⟨k + 1, by omega, by go_num, HG2, HB1⟩
          case measure => simp [intOf]; omega
        · have hgo2 : decide (128 ≤ X) = false := decide_eq_false hgo
          have hsf := sfx_last hk9 hlt (by rw [HX.out]; omega)
          rw [HX.out] at hsf
          obtain ⟨hr1, hr2⟩ := HG.out.rest hk10
          rw [hsf] at hr1 hr2
          have HS := Lib.hid hsf
          have HE1 := Lib.hid hr1
          have HE2 := Lib.hid hr2
          have hai : ¬ (l.length : Int) ≤ (A : Int) := by omega
          have hsg : decide ((l.length : Int) ≤ (A : Int)) = false := decide_eq_false hai
          have hsn : decide (l.length ≤ A) = false := decide_eq_false (by omega)
          clear hsf hr1 hr2
          go_wp2_with fail
          have hGS : Grows (fun w' => Below wr.heap.size wr w') := Grows.below wr
          refine' wp_growL _ (fun w' => Below wr.heap.size wr w') [[], [0], [1], [2], [2, 3], [2, 4], [2, 5], [2], [2, 6, 7], [2], [2, 9], [2, 10], [2, 11], [2, 12], [2, 8, 13], [2, 14], [15], [16], [16, 17], [16, 18], [16, 19], [16], [16, 21], [16, 22], [16, 23], [16], [16, 24, 25], [16, 20, 26], [16, 27], [16, 28], [16, 29]] (Fact.lit _ :: Fact.lit _ :: Fact.lit _ :: Fact.lit _ :: Fact.lit _ :: Fact.lit _ :: Fact.lit _ :: Fact.lit _ :: Fact.lit _ :: Fact.lit _ :: Fact.lit _ :: Fact.lit _ :: Fact.lit _ :: Fact.lit _ :: Fact.lit _ :: Fact.lit _ :: Fact.lit _ :: Fact.lit _ :: Fact.lit _ :: Fact.lit _ :: Fact.lit _ :: Fact.lit _ :: Fact.lit _ :: Fact.lit _ :: Fact.lit _ :: Fact.lit _ :: Fact.lit _ :: Fact.lit _ :: Fact.lit _ :: Fact.lit _ :: Fact.lit _ :: []) (by kernel_rfl) rfl (by kernel_rfl) (Below.refl _ _).drew ?seqcc
          case' seqcc => skip
          iterate 31 ((first | (apply grow_skip; (case hf => rfl); (case hw => rfl)) | (apply grow_lit; (case hf => rfl); (case hw => rfl); (case hrun => (intro w' hS H; clear H; (obtain ⟨c0, c1, c2, c3, -, -, -, -⟩ := (HK.out.keep (bOn HB.out hS)).o4); (have g := GC.out w' (bOn HB.out hS)); clear hS; go_simp; first | done | exact rfl)))); (case hc => (simp only [Act.put, List.setIfInBounds_toArray, List.set_cons_zero, List.set_cons_succ]; first | done | exact rfl)); (try (case hj => rfl)))
          intro w1 hb _
          have HB1 := Lib.hid (bOn HB.out hb)
          clear hb hGS
          go_wp2_with fail
          have hGS : Grows (fun w' => Below w1.heap.size w1 w') := Grows.below w1
          refine' wp_growL _ (fun w' => Below w1.heap.size w1 w') [[], [0], [1], [2], [], [3, 4], [], [6], [7], [8], [9], [5, 10]] (Fact.lit _ :: Fact.lit _ :: Fact.lit _ :: Fact.lit _ :: Fact.lit _ :: Fact.lit _ :: Fact.lit _ :: Fact.lit _ :: Fact.lit _ :: Fact.lit _ :: Fact.lit _ :: Fact.lit _ :: []) (by kernel_rfl) rfl (by kernel_rfl) (Below.refl _ _).drew ?seqcd
          case' seqcd => skip
          iterate 12 ((first | (apply grow_skip; (case hf => rfl); (case hw => rfl)) | (apply grow_lit; (case hf => rfl); (case hw => rfl); (case hrun => (intro w' hS H; clear H; (obtain ⟨c0, c1, c2, c3, -, -, -, -⟩ := (HK.out.keep (bOn HB1.out hS)).o4); clear hS; go_simp; first | done | exact rfl)))); (case hc => (simp only [Act.put, List.setIfInBounds_toArray, List.set_cons_zero, List.set_cons_succ]; first | done | exact rfl)); (try (case hj => rfl)))
          intro w2 hb _
          have HB2 := Lib.hid (bOn HB1.out hb)
          clear hb hGS
          go_wp2_with fail
          have hGS : Grows (fun w' => Below w2.heap.size w2 w') := Grows.below w2
          refine' wp_growL _ (fun w' => Below w2.heap.size w2 w') [[], [0], [1], [2], [], [4], [5], [6], [], [7, 8], [3, 9], [10], [11]] (Fact.lit _ :: Fact.lit _ :: Fact.lit _ :: Fact.lit _ :: Fact.lit _ :: Fact.lit _ :: Fact.lit _ :: Fact.lit _ :: Fact.lit _ :: Fact.lit _ :: Fact.lit _ :: Fact.lit _ :: Fact.lit _ :: []) (by kernel_rfl) rfl (by kernel_rfl) (Below.refl _ _).drew ?seqce
          case' seqce => skip
          iterate 13 ((first | (apply grow_skip; (case hf => rfl); (case hw => rfl)) | (apply grow_lit; (case hf => rfl); (case hw => rfl); (case hrun => (intro w' hS H; clear H; (obtain ⟨c0, c1, c2, c3, -, -, -, -⟩ := (HK.out.keep (bOn HB2.out hS)).o4); (have g := GC.out w' (bOn HB2.out hS)); clear hS; go_simp; first | done | exact rfl)))); (case hc => (simp only [Act.put, List.setIfInBounds_toArray, List.set_cons_zero, List.set_cons_succ]; first | done | exact rfl)); (try (case hj => rfl)))
          intro w3 hb _
          have HB3 := Lib.hid (bOn HB2.out hb)
          clear hb hGS
          by_cases hbad : (0 < k ∧ X = 0) ∨ (k = 9 ∧ 1 < X)
          · rw [if_pos hbad] at HE1
            have HE : Hid (R = (0, a, 2)) := Lib.hid (by rw [← HRR.out, HE1.out]; rfl)
            have hw : ((X == 0) = true ∧ decide (0 < (k : Int)) = true ∧ decide (0 < k) = true) ∨ ((X == 0) = false ∧ ((k : Int) == 9) = true ∧ decide (1 < X) = true) := by
              rcases hbad with ⟨h1, h2⟩ | ⟨h1, h2⟩
              · exact Or.inl ⟨by simp [h2], decide_eq_true (by omega), decide_eq_true h1⟩
              · exact Or.inr ⟨by simp; omega, by simp [h1], decide_eq_true h2⟩
            clear hbad
            rcases hw with ⟨t1, t2, t3⟩ | ⟨t1, t2, t3⟩
            all_goals
              go_wp2_with fail
              refine (fail6 (HR.out.below HB3.out) 2 (by decide)).mono ?_
              rintro ev wf ⟨rfl, hr, hb⟩
              have HF : Hid (U6Post .u64 (0, a, 2) w lo b l (.returned (.int .u64 0)) wf) := Lib.hid ⟨rfl, hr, (But.of_below HB3.out).trans hb⟩
              clear hr hb
              go_wp2_with fail
              go_ret
              rw [HE.out]
              exact HF.out
          · rw [if_neg hbad] at HE1
            have hw : ((X == 0) = true ∧ decide (0 < (k : Int)) = false ∧ decide (0 < k) = false ∧ ((k : Int) == 9) = false) ∨ ((X == 0) = false ∧ ((k : Int) == 9) = true ∧ decide (1 < X) = false) ∨ ((X == 0) = false ∧ ((k : Int) == 9) = false) := by
              by_cases h1 : X = 0
              · have h2 : ¬ 0 < k := fun h => hbad (Or.inl ⟨h, h1⟩)
                exact Or.inl ⟨by simp [h1], decide_eq_false (by omega), decide_eq_false h2, by simp; omega⟩
              · by_cases h2 : k = 9
                · have h3 : ¬ 1 < X := fun h => hbad (Or.inr ⟨h2, h⟩)
                  exact Or.inr (Or.inl ⟨by simpa using h1, by simp [h2], decide_eq_false h3⟩)
                · exact Or.inr (Or.inr ⟨by simpa using h1, by simp; omega⟩)
            have HV : Hid (∀ i, i ≤ k → 0 ≤ (sfx L i).1 ∧ (sfx L i).1 ≤ 18446744073709551615) := Lib.hid (fun i hi => HG.out.val H8.out hk9 HE1.out hi)
            rw [HE1.out, if_pos rfl] at HRR
            clear hbad
            rcases hw with ⟨t1, t2, t3, t4⟩ | ⟨t1, t2, t3⟩ | ⟨t1, t2⟩
            · skip
              go_wp2_with fail
              clear t1 t2 t3 t4
              go_loopw [7, 8] (fun v i wr => ∃ (j : Nat) (V I : Int), j ≤ k + 1 ∧ i = .int .i64 I ∧ v = .int .u64 V ∧ Hid (I = (j : Int) - 1) ∧ Hid (V = if j ≤ k then (sfx L j).1 else 0) ∧ Hid (Below w.heap.size w wr)) (fun _ i _ => (intOf i + 1).toNat)
              case atStart => exact ⟨k + 1, 0, k, Nat.le_refl _, rfl, rfl, Lib.hid (by omega), Lib.hid (by rw [if_neg (by omega)]), HB3⟩
              case round =>
                obtain ⟨j, V, I, hjk, rfl, rfl, HI, HJ, HBr⟩ := hrel
                cases j with
                | zero =>
                  have HV0 : Hid (V = (rd L).1) := Lib.hid (by rw [HJ.out, if_pos (Nat.zero_le _), sfx_zero])
                  obtain rfl : I = -1 := HI.out
                  by_cases hM : M < V
                  · have HE : Hid (R = (0, a, 8)) := Lib.hid (by rw [← HRR.out, if_pos (by rw [← HV0.out]; exact hM)])
                    have dM : decide (M < V) = true := decide_eq_true hM
                    go_wp2_with fail
                    refine (fail6 (HR.out.below HBr.out) 8 (by decide)).mono ?_
                    rintro ev wf ⟨rfl, hr, hb⟩
                    have HF : Hid (U6Post .u64 (0, a, 8) w lo b l (.returned (.int .u64 0)) wf) := Lib.hid ⟨rfl, hr, (But.of_below HBr.out).trans hb⟩
                    clear hr hb
                    go_wp2_with fail
                    go_ret
                    rw [HE.out]
                    exact HF.out
                  · have HE : Hid (R = (V, a + (k + 1), 0)) := Lib.hid (by rw [← HRR.out, if_neg (by rw [← HV0.out]; exact hM), HE2.out, HV0.out])
                    have dM : decide (M < V) = false := decide_eq_false hM
                    obtain ⟨c0, c1, c2, c3, f0, f1, f2, f3⟩ := (HK.out.keep HBr.out).o4
                    have hw2 : IntKind.i64.wrap ((A : Int) + 1) = ((a + (k + 1) : Nat) : Int) := by rw [← hAA.out]; simp [IntKind.wrap, IntKind.bits, IntKind.signed]; omega
                    obtain ⟨A1, hA1⟩ : ∃ A1 : Nat, a + (k + 1) = A1 := ⟨_, rfl⟩
                    rw [hA1] at hw2
                    have HA1 := Lib.hid hA1
                    clear hA1
                    go_wp2_with fail
                    go_ret
                    have hbt : But _ wr (wr.setCell ⟨b, 1, none⟩ (.int .i64 A1)) := (But.refl b wr).setCell _ _
                    rw [HE.out, HA1.out]
                    refine ⟨rfl, ⟨_, c, ⟨.slice none 0 0, ?_, Or.inl ⟨rfl, rfl⟩⟩, (HROW.out.keep (HBr.out.mono hlw)).but hbt hlo, h8', by show A1 ≤ l.length; have := HA1.out; omega, hf, hlo⟩, (But.of_below HBr.out).trans hbt⟩
                    have := (HK.out.keep HBr.out).set 1 (.int .i64 A1)
                    simpa using this
                | succ j =>
                  have hjk2 : j ≤ k := by omega
                  have hjL : j < L.length := by omega
                  obtain ⟨hjl, hjg⟩ := HGET.out j hjL
                  obtain ⟨x', o', eq', hx', hc'⟩ := HROW.out.at (a + j) hjl
                  obtain ⟨e4, e5⟩ : x' = x ∧ o' = o := by injection eq' with e1; injection e1 with e2 e3; exact ⟨e2.symm, e3.symm⟩
                  subst e4 e5
                  obtain ⟨Z, hZ⟩ : ∃ Z, L[j] = Z := ⟨_, rfl⟩
                  rw [← hjg, hZ] at hc'
                  have hz8 := H8.out.at j hjL
                  rw [hZ] at hz8
                  obtain ⟨B, hB⟩ : ∃ B : Nat, a + j = B := ⟨_, rfl⟩
                  rw [hB] at hc' hjl
                  have hwB : IntKind.i64.wrap ((a : Int) + (j : Int)) = B := by rw [← hB]; simp [IntKind.wrap, IntKind.bits, IntKind.signed]; omega
                  have hBi : (B : Int) < (l.length : Int) := by omega
                  have GD : Hid (∀ w', Below w.heap.size w w' → w'.cell? ⟨x', o' + B, none⟩ = some (.int .u8 Z)) := Lib.hid (fun w' hb => (hb.cell (World.block_lt_of_cell? w _ hc')).trans hc')
                  obtain ⟨n0, n1⟩ := HV.out j hjk2
                  obtain ⟨Y, hY⟩ : ∃ Y, Z.tmod 128 = Y := ⟨_, rfl⟩
                  have hYe : Y = Z % 128 := by rw [← hY, Int.tmod_eq_emod_of_nonneg hz8.1]
                  have hVN : 0 ≤ V ∧ V * 128 + Y = (sfx L j).1 := by
                    rcases Nat.lt_or_ge j k with h1 | h1
                    · obtain ⟨h2, h3⟩ := HG.out j h1
                      have h4 := sfx_more (by omega) h2 h3
                      have h5 := HJ.out
                      rw [if_pos (by omega)] at h5
                      rw [h4, hZ, h5]
                      rw [hZ] at h3
                      exact ⟨(HV.out (j + 1) (by omega)).1, by show _ = Z - 128 + 128 * (sfx L (j + 1)).1; omega⟩
                    · obtain rfl : j = k := by omega
                      have h5 := HJ.out
                      rw [if_neg (by omega)] at h5
                      rw [HS.out, h5]
                      have h6 := HX.out
                      rw [hZ] at h6
                      exact ⟨by omega, by show 0 * 128 + Y = X; omega⟩
                  obtain ⟨N, hN⟩ : ∃ N, (sfx L j).1 = N := ⟨_, rfl⟩
                  rw [hN] at hVN n0 n1
                  have hv1 : IntKind.u64.wrap (V * 128) = V * 128 := by simp [IntKind.wrap, IntKind.bits, IntKind.signed]; omega
                  have hv2 : IntKind.u64.wrap (V * 128 + Y) = N := by rw [hVN.2]; simp [IntKind.wrap, IntKind.bits, IntKind.signed]; omega
                  obtain ⟨V1, hV1⟩ : ∃ V1, V * 128 = V1 := ⟨_, rfl⟩
                  rw [hV1] at hv1 hv2
                  have hyr : 0 ≤ Y ∧ Y ≤ 255 := by omega
                  have hyw : IntKind.u64.wrap Y = Y := by simp [IntKind.wrap, IntKind.bits, IntKind.signed]; omega
                  obtain rfl : I = (j : Int) := by have := HI.out; omega
                  have hcn : decide ((0 : Int) ≤ (j : Int)) = true := decide_eq_true (by omega)
                  have HN := Lib.hid hN
                  clear hYe hVN hZ hjg hc' hN hB
                  go_wp2_with fail
                  have hGS : Grows (fun w' => Below wr.heap.size wr w') := Grows.below wr
                  refine' wp_thenL _ 17 (fun w' => Below wr.heap.size wr w') [[], [0], [], [2], [3], [4], [], [6], [7], [8], [], [9, 10], [5, 11], [12], [13], [14], [1, 15]] (Fact.lit _ :: Fact.lit _ :: Fact.lit _ :: Fact.lit _ :: Fact.lit _ :: Fact.lit _ :: Fact.lit _ :: Fact.lit _ :: Fact.lit _ :: Fact.lit _ :: Fact.lit _ :: Fact.lit _ :: Fact.lit _ :: Fact.lit _ :: Fact.lit _ :: Fact.lit _ :: Fact.lit _ :: []) (by kernel_rfl) rfl (by kernel_rfl) (Below.refl _ _).drew ?seqcj1
                  case' seqcj1 => skip
                  iterate 17 ((first | (apply grow_skip; (case hf => rfl); (case hw => rfl)) | (apply grow_lit; (case hf => rfl); (case hw => rfl); (case hrun => (intro w' hS H; clear H; (obtain ⟨c0, c1, c2, c3, -, -, -, -⟩ := (HK.out.keep (bOn HBr.out hS)).o4); (have g := GD.out w' (bOn HBr.out hS)); clear hS; go_simp; first | done | exact rfl)))); (case hc => (simp only [Act.put, List.setIfInBounds_toArray, List.set_cons_zero, List.set_cons_succ]; first | done | exact rfl)); (try (case hj => rfl)))
                  intro w5 hb _
                  have HB5 := Lib.hid (bOn HBr.out hb)
                  clear hb
                  refine wpAny_ready (rs := [17]) (by kernel_rfl) (by simp) (AllReady.cons rfl (fun K hK => ?_) AllReady.nil)
                  go_simp
                  refine hK _ _ ?_
                  clear hK K
                  refine wpAny_done (by kernel_rfl) ?_ _
                  go_wp2_with fail
                  go_roundw
                  case rel => exact ⟨j, N, (j : Int) - 1, by omega, by go_num, by go_num, Lib.hid rfl, Lib.hid (by rw [if_pos hjk2, HN.out]), HB5⟩
                  case measure => first | (simp [intOf]; done) | (simp [intOf]; omega)
            · skip
              go_wp2_with fail
              clear t1 t2 t3
              go_loopw [7, 8] (fun v i wr => ∃ (j : Nat) (V I : Int), j ≤ k + 1 ∧ i = .int .i64 I ∧ v = .int .u64 V ∧ Hid (I = (j : Int) - 1) ∧ Hid (V = if j ≤ k then (sfx L j).1 else 0) ∧ Hid (Below w.heap.size w wr)) (fun _ i _ => (intOf i + 1).toNat)
              case atStart => exact ⟨k + 1, 0, k, Nat.le_refl _, rfl, rfl, Lib.hid (by omega), Lib.hid (by rw [if_neg (by omega)]), HB3⟩
              case round =>
                obtain ⟨j, V, I, hjk, rfl, rfl, HI, HJ, HBr⟩ := hrel
                cases j with
                | zero =>
                  have HV0 : Hid (V = (rd L).1) := Lib.hid (by rw [HJ.out, if_pos (Nat.zero_le _), sfx_zero])
                  obtain rfl : I = -1 := HI.out
                  by_cases hM : M < V
                  · have HE : Hid (R = (0, a, 8)) := Lib.hid (by rw [← HRR.out, if_pos (by rw [← HV0.out]; exact hM)])
                    have dM : decide (M < V) = true := decide_eq_true hM
                    go_wp2_with fail
                    refine (fail6 (HR.out.below HBr.out) 8 (by decide)).mono ?_
                    rintro ev wf ⟨rfl, hr, hb⟩
                    have HF : Hid (U6Post .u64 (0, a, 8) w lo b l (.returned (.int .u64 0)) wf) := Lib.hid ⟨rfl, hr, (But.of_below HBr.out).trans hb⟩
                    clear hr hb
                    go_wp2_with fail
                    go_ret
                    rw [HE.out]
                    exact HF.out
                  · have HE : Hid (R = (V, a + (k + 1), 0)) := Lib.hid (by rw [← HRR.out, if_neg (by rw [← HV0.out]; exact hM), HE2.out, HV0.out])
                    have dM : decide (M < V) = false := decide_eq_false hM
                    obtain ⟨c0, c1, c2, c3, f0, f1, f2, f3⟩ := (HK.out.keep HBr.out).o4
                    have hw2 : IntKind.i64.wrap ((A : Int) + 1) = ((a + (k + 1) : Nat) : Int) := by rw [← hAA.out]; simp [IntKind.wrap, IntKind.bits, IntKind.signed]; omega
                    obtain ⟨A1, hA1⟩ : ∃ A1 : Nat, a + (k + 1) = A1 := ⟨_, rfl⟩
                    rw [hA1] at hw2
                    have HA1 := Lib.hid hA1
                    clear hA1
                    go_wp2_with fail
                    go_ret
                    have hbt : But _ wr (wr.setCell ⟨b, 1, none⟩ (.int .i64 A1)) := (But.refl b wr).setCell _ _
                    rw [HE.out, HA1.out]
                    refine ⟨rfl, ⟨_, c, ⟨.slice none 0 0, ?_, Or.inl ⟨rfl, rfl⟩⟩, (HROW.out.keep (HBr.out.mono hlw)).but hbt hlo, h8', by show A1 ≤ l.length; have := HA1.out; omega, hf, hlo⟩, (But.of_below HBr.out).trans hbt⟩
                    have := (HK.out.keep HBr.out).set 1 (.int .i64 A1)
                    simpa using this
                | succ j =>
                  have hjk2 : j ≤ k := by omega
                  have hjL : j < L.length := by omega
                  obtain ⟨hjl, hjg⟩ := HGET.out j hjL
                  obtain ⟨x', o', eq', hx', hc'⟩ := HROW.out.at (a + j) hjl
                  obtain ⟨e4, e5⟩ : x' = x ∧ o' = o := by injection eq' with e1; injection e1 with e2 e3; exact ⟨e2.symm, e3.symm⟩
                  subst e4 e5
                  obtain ⟨Z, hZ⟩ : ∃ Z, L[j] = Z := ⟨_, rfl⟩
                  rw [← hjg, hZ] at hc'
                  have hz8 := H8.out.at j hjL
                  rw [hZ] at hz8
                  obtain ⟨B, hB⟩ : ∃ B : Nat, a + j = B := ⟨_, rfl⟩
                  rw [hB] at hc' hjl
                  have hwB : IntKind.i64.wrap ((a : Int) + (j : Int)) = B := by rw [← hB]; simp [IntKind.wrap, IntKind.bits, IntKind.signed]; omega
                  have hBi : (B : Int) < (l.length : Int) := by omega
                  have GD : Hid (∀ w', Below w.heap.size w w' → w'.cell? ⟨x', o' + B, none⟩ = some (.int .u8 Z)) := Lib.hid (fun w' hb => (hb.cell (World.block_lt_of_cell? w _ hc')).trans hc')
                  obtain ⟨n0, n1⟩ := HV.out j hjk2
                  obtain ⟨Y, hY⟩ : ∃ Y, Z.tmod 128 = Y := ⟨_, rfl⟩
                  have hYe : Y = Z % 128 := by rw [← hY, Int.tmod_eq_emod_of_nonneg hz8.1]
                  have hVN : 0 ≤ V ∧ V * 128 + Y = (sfx L j).1 := by
                    rcases Nat.lt_or_ge j k with h1 | h1
                    · obtain ⟨h2, h3⟩ := HG.out j h1
                      have h4 := sfx_more (by omega) h2 h3
                      have h5 := HJ.out
                      rw [if_pos (by omega)] at h5
                      rw [h4, hZ, h5]
                      rw [hZ] at h3
                      exact ⟨(HV.out (j + 1) (by omega)).1, by show _ = Z - 128 + 128 * (sfx L (j + 1)).1; omega⟩
                    · obtain rfl : j = k := by omega
                      have h5 := HJ.out
                      rw [if_neg (by omega)] at h5
                      rw [HS.out, h5]
                      have h6 := HX.out
                      rw [hZ] at h6
                      exact ⟨by omega, by show 0 * 128 + Y = X; omega⟩
                  obtain ⟨N, hN⟩ : ∃ N, (sfx L j).1 = N := ⟨_, rfl⟩
                  rw [hN] at hVN n0 n1
                  have hv1 : IntKind.u64.wrap (V * 128) = V * 128 := by simp [IntKind.wrap, IntKind.bits, IntKind.signed]; omega
                  have hv2 : IntKind.u64.wrap (V * 128 + Y) = N := by rw [hVN.2]; simp [IntKind.wrap, IntKind.bits, IntKind.signed]; omega
                  obtain ⟨V1, hV1⟩ : ∃ V1, V * 128 = V1 := ⟨_, rfl⟩
                  rw [hV1] at hv1 hv2
                  have hyr : 0 ≤ Y ∧ Y ≤ 255 := by omega
                  have hyw : IntKind.u64.wrap Y = Y := by simp [IntKind.wrap, IntKind.bits, IntKind.signed]; omega
                  obtain rfl : I = (j : Int) := by have := HI.out; omega
                  have hcn : decide ((0 : Int) ≤ (j : Int)) = true := decide_eq_true (by omega)
                  have HN := Lib.hid hN
                  clear hYe hVN hZ hjg hc' hN hB
                  go_wp2_with fail
                  have hGS : Grows (fun w' => Below wr.heap.size wr w') := Grows.below wr
                  refine' wp_thenL _ 17 (fun w' => Below wr.heap.size wr w') [[], [0], [], [2], [3], [4], [], [6], [7], [8], [], [9, 10], [5, 11], [12], [13], [14], [1, 15]] (Fact.lit _ :: Fact.lit _ :: Fact.lit _ :: Fact.lit _ :: Fact.lit _ :: Fact.lit _ :: Fact.lit _ :: Fact.lit _ :: Fact.lit _ :: Fact.lit _ :: Fact.lit _ :: Fact.lit _ :: Fact.lit _ :: Fact.lit _ :: Fact.lit _ :: Fact.lit _ :: Fact.lit _ :: []) (by kernel_rfl) rfl (by kernel_rfl) (Below.refl _ _).drew ?seqcj2
                  case' seqcj2 => skip
                  iterate 17 ((first | (apply grow_skip; (case hf => rfl); (case hw => rfl)) | (apply grow_lit; (case hf => rfl); (case hw => rfl); (case hrun => (intro w' hS H; clear H; (obtain ⟨c0, c1, c2, c3, -, -, -, -⟩ := (HK.out.keep (bOn HBr.out hS)).o4); (have g := GD.out w' (bOn HBr.out hS)); clear hS; go_simp; first | done | exact rfl)))); (case hc => (simp only [Act.put, List.setIfInBounds_toArray, List.set_cons_zero, List.set_cons_succ]; first | done | exact rfl)); (try (case hj => rfl)))
                  intro w5 hb _
                  have HB5 := Lib.hid (bOn HBr.out hb)
                  clear hb
                  refine wpAny_ready (rs := [17]) (by kernel_rfl) (by simp) (AllReady.cons rfl (fun K hK => ?_) AllReady.nil)
                  go_simp
                  refine hK _ _ ?_
                  clear hK K
                  refine wpAny_done (by kernel_rfl) ?_ _
                  go_wp2_with fail
                  go_roundw
                  case rel => exact ⟨j, N, (j : Int) - 1, by omega, by go_num, by go_num, Lib.hid rfl, Lib.hid (by rw [if_pos hjk2, HN.out]), HB5⟩
                  case measure => first | (simp [intOf]; done) | (simp [intOf]; omega)
            · skip
              go_wp2_with fail
              clear t1 t2
              go_loopw [7, 8] (fun v i wr => ∃ (j : Nat) (V I : Int), j ≤ k + 1 ∧ i = .int .i64 I ∧ v = .int .u64 V ∧ Hid (I = (j : Int) - 1) ∧ Hid (V = if j ≤ k then (sfx L j).1 else 0) ∧ Hid (Below w.heap.size w wr)) (fun _ i _ => (intOf i + 1).toNat)
              case atStart => exact ⟨k + 1, 0, k, Nat.le_refl _, rfl, rfl, Lib.hid (by omega), Lib.hid (by rw [if_neg (by omega)]), HB3⟩
              case round =>
                obtain ⟨j, V, I, hjk, rfl, rfl, HI, HJ, HBr⟩ := hrel
                cases j with
                | zero =>
                  have HV0 : Hid (V = (rd L).1) := Lib.hid (by rw [HJ.out, if_pos (Nat.zero_le _), sfx_zero])
                  obtain rfl : I = -1 := HI.out
                  by_cases hM : M < V
                  · have HE : Hid (R = (0, a, 8)) := Lib.hid (by rw [← HRR.out, if_pos (by rw [← HV0.out]; exact hM)])
                    have dM : decide (M < V) = true := decide_eq_true hM
                    go_wp2_with fail
                    refine (fail6 (HR.out.below HBr.out) 8 (by decide)).mono ?_
                    rintro ev wf ⟨rfl, hr, hb⟩
                    have HF : Hid (U6Post .u64 (0, a, 8) w lo b l (.returned (.int .u64 0)) wf) := Lib.hid ⟨rfl, hr, (But.of_below HBr.out).trans hb⟩
                    clear hr hb
                    go_wp2_with fail
                    go_ret
                    rw [HE.out]
                    exact HF.out
                  · have HE : Hid (R = (V, a + (k + 1), 0)) := Lib.hid (by rw [← HRR.out, if_neg (by rw [← HV0.out]; exact hM), HE2.out, HV0.out])
                    have dM : decide (M < V) = false := decide_eq_false hM
                    obtain ⟨c0, c1, c2, c3, f0, f1, f2, f3⟩ := (HK.out.keep HBr.out).o4
                    have hw2 : IntKind.i64.wrap ((A : Int) + 1) = ((a + (k + 1) : Nat) : Int) := by rw [← hAA.out]; simp [IntKind.wrap, IntKind.bits, IntKind.signed]; omega
                    obtain ⟨A1, hA1⟩ : ∃ A1 : Nat, a + (k + 1) = A1 := ⟨_, rfl⟩
                    rw [hA1] at hw2
                    have HA1 := Lib.hid hA1
                    clear hA1
                    go_wp2_with fail
                    go_ret
                    have hbt : But _ wr (wr.setCell ⟨b, 1, none⟩ (.int .i64 A1)) := (But.refl b wr).setCell _ _
                    rw [HE.out, HA1.out]
                    refine ⟨rfl, ⟨_, c, ⟨.slice none 0 0, ?_, Or.inl ⟨rfl, rfl⟩⟩, (HROW.out.keep (HBr.out.mono hlw)).but hbt hlo, h8', by show A1 ≤ l.length; have := HA1.out; omega, hf, hlo⟩, (But.of_below HBr.out).trans hbt⟩
                    have := (HK.out.keep HBr.out).set 1 (.int .i64 A1)
                    simpa using this
                | succ j =>
                  have hjk2 : j ≤ k := by omega
                  have hjL : j < L.length := by omega
                  obtain ⟨hjl, hjg⟩ := HGET.out j hjL
                  obtain ⟨x', o', eq', hx', hc'⟩ := HROW.out.at (a + j) hjl
                  obtain ⟨e4, e5⟩ : x' = x ∧ o' = o := by injection eq' with e1; injection e1 with e2 e3; exact ⟨e2.symm, e3.symm⟩
                  subst e4 e5
                  obtain ⟨Z, hZ⟩ : ∃ Z, L[j] = Z := ⟨_, rfl⟩
                  rw [← hjg, hZ] at hc'
                  have hz8 := H8.out.at j hjL
                  rw [hZ] at hz8
                  obtain ⟨B, hB⟩ : ∃ B : Nat, a + j = B := ⟨_, rfl⟩
                  rw [hB] at hc' hjl
                  have hwB : IntKind.i64.wrap ((a : Int) + (j : Int)) = B := by rw [← hB]; simp [IntKind.wrap, IntKind.bits, IntKind.signed]; omega
                  have hBi : (B : Int) < (l.length : Int) := by omega
                  have GD : Hid (∀ w', Below w.heap.size w w' → w'.cell? ⟨x', o' + B, none⟩ = some (.int .u8 Z)) := Lib.hid (fun w' hb => (hb.cell (World.block_lt_of_cell? w _ hc')).trans hc')
                  obtain ⟨n0, n1⟩ := HV.out j hjk2
                  obtain ⟨Y, hY⟩ : ∃ Y, Z.tmod 128 = Y := ⟨_, rfl⟩
                  have hYe : Y = Z % 128 := by rw [← hY, Int.tmod_eq_emod_of_nonneg hz8.1]
                  have hVN : 0 ≤ V ∧ V * 128 + Y = (sfx L j).1 := by
                    rcases Nat.lt_or_ge j k with h1 | h1
                    · obtain ⟨h2, h3⟩ := HG.out j h1
                      have h4 := sfx_more (by omega) h2 h3
                      have h5 := HJ.out
                      rw [if_pos (by omega)] at h5
                      rw [h4, hZ, h5]
                      rw [hZ] at h3
                      exact ⟨(HV.out (j + 1) (by omega)).1, by show _ = Z - 128 + 128 * (sfx L (j + 1)).1; omega⟩
                    · obtain rfl : j = k := by omega
                      have h5 := HJ.out
                      rw [if_neg (by omega)] at h5
                      rw [HS.out, h5]
                      have h6 := HX.out
                      rw [hZ] at h6
                      exact ⟨by omega, by show 0 * 128 + Y = X; omega⟩
                  obtain ⟨N, hN⟩ : ∃ N, (sfx L j).1 = N := ⟨_, rfl⟩
                  rw [hN] at hVN n0 n1
                  have hv1 : IntKind.u64.wrap (V * 128) = V * 128 := by simp [IntKind.wrap, IntKind.bits, IntKind.signed]; omega
                  have hv2 : IntKind.u64.wrap (V * 128 + Y) = N := by rw [hVN.2]; simp [IntKind.wrap, IntKind.bits, IntKind.signed]; omega
                  obtain ⟨V1, hV1⟩ : ∃ V1, V * 128 = V1 := ⟨_, rfl⟩
                  rw [hV1] at hv1 hv2
                  have hyr : 0 ≤ Y ∧ Y ≤ 255 := by omega
                  have hyw : IntKind.u64.wrap Y = Y := by simp [IntKind.wrap, IntKind.bits, IntKind.signed]; omega
                  obtain rfl : I = (j : Int) := by have := HI.out; omega
                  have hcn : decide ((0 : Int) ≤ (j : Int)) = true := decide_eq_true (by omega)
                  have HN := Lib.hid hN
                  clear hYe hVN hZ hjg hc' hN hB
                  go_wp2_with fail
                  have hGS : Grows (fun w' => Below wr.heap.size wr w') := Grows.below wr
                  refine' wp_thenL _ 17 (fun w' => Below wr.heap.size wr w') [[], [0], [], [2], [3], [4], [], [6], [7], [8], [], [9, 10], [5, 11], [12], [13], [14], [1, 15]] (Fact.lit _ :: Fact.lit _ :: Fact.lit _ :: Fact.lit _ :: Fact.lit _ :: Fact.lit _ :: Fact.lit _ :: Fact.lit _ :: Fact.lit _ :: Fact.lit _ :: Fact.lit _ :: Fact.lit _ :: Fact.lit _ :: Fact.lit _ :: Fact.lit _ :: Fact.lit _ :: Fact.lit _ :: []) (by kernel_rfl) rfl (by kernel_rfl) (Below.refl _ _).drew ?seqcj3
                  case' seqcj3 => skip
                  iterate 17 ((first | (apply grow_skip; (case hf => rfl); (case hw => rfl)) | (apply grow_lit; (case hf => rfl); (case hw => rfl); (case hrun => (intro w' hS H; clear H; (obtain ⟨c0, c1, c2, c3, -, -, -, -⟩ := (HK.out.keep (bOn HBr.out hS)).o4); (have g := GD.out w' (bOn HBr.out hS)); clear hS; go_simp; first | done | exact rfl)))); (case hc => (simp only [Act.put, List.setIfInBounds_toArray, List.set_cons_zero, List.set_cons_succ]; first | done | exact rfl)); (try (case hj => rfl)))
                  intro w5 hb _
                  have HB5 := Lib.hid (bOn HBr.out hb)
                  clear hb
                  refine wpAny_ready (rs := [17]) (by kernel_rfl) (by simp) (AllReady.cons rfl (fun K hK => ?_) AllReady.nil)
                  go_simp
                  refine hK _ _ ?_
                  clear hK K
                  refine wpAny_done (by kernel_rfl) ?_ _
                  go_wp2_with fail
                  go_roundw
                  case rel => exact ⟨j, N, (j : Int) - 1, by omega, by go_num, by go_num, Lib.hid rfl, Lib.hid (by rw [if_pos hjk2, HN.out]), HB5⟩
                  case measure => first | (simp [intOf]; done) | (simp [intOf]; omega)
      · have hli : ¬ (A : Int) < (l.length : Int) := by omega
        have hge : decide ((l.length : Int) ≤ (A : Int)) = true := decide_eq_true (by omega)
        have hgn : decide (A < l.length) = false := decide_eq_false (by omega)
        have hgm : decide (l.length ≤ A) = true := decide_eq_true (by omega)
        have hkL : k = L.length := by
          rcases Nat.eq_zero_or_pos k with h0 | h0
          · omega
          · obtain ⟨h1, -⟩ := HG.out (k - 1) (by omega)
            omega
        have HE : Hid (R = (0, a, 3)) := Lib.hid (by rw [← HRR.out, Goes.short (L := L) (by rw [← hkL]; exact HG.out) (by omega)]; rfl)
        clear hkL
        go_wp2_with fail
        have hGS : Grows (fun w' => Below wr.heap.size wr w') := Grows.below wr
        refine' wp_growL _ (fun w' => Below wr.heap.size wr w') [[], [0], [1], [2], [2, 3], [2, 4], [2, 5], [2], [2, 6, 7], [2], [2, 9], [2, 10], [2, 11], [2, 12], [2, 8, 13], [2, 14], [15], [16], [16, 17], [16, 18], [16, 19], [16], [16, 21], [16, 22], [16, 23], [16], [16, 24, 25], [16, 20, 26], [16, 27], [16, 28], [16, 29]] (Fact.lit _ :: Fact.lit _ :: Fact.lit _ :: Fact.lit _ :: Fact.lit _ :: Fact.lit _ :: Fact.lit _ :: Fact.lit _ :: Fact.lit _ :: Fact.lit _ :: Fact.lit _ :: Fact.lit _ :: Fact.lit _ :: Fact.lit _ :: Fact.lit _ :: Fact.lit _ :: Fact.lit _ :: Fact.lit _ :: Fact.lit _ :: Fact.lit _ :: Fact.lit _ :: Fact.lit _ :: Fact.lit _ :: Fact.lit _ :: Fact.lit _ :: Fact.lit _ :: Fact.lit _ :: Fact.lit _ :: Fact.lit _ :: Fact.lit _ :: Fact.lit _ :: []) (by kernel_rfl) rfl (by kernel_rfl) (Below.refl _ _).drew ?seqcf
        case' seqcf => skip
        iterate 31 ((first | (apply grow_skip; (case hf => rfl); (case hw => rfl)) | (apply grow_lit; (case hf => rfl); (case hw => rfl); (case hrun => (intro w' hS H; clear H; (obtain ⟨c0, c1, c2, c3, -, -, -, -⟩ := (HK.out.keep (bOn HB.out hS)).o4); clear hS; go_simp; first | done | exact rfl)))); (case hc => (simp only [Act.put, List.setIfInBounds_toArray, List.set_cons_zero, List.set_cons_succ]; first | done | exact rfl)); (try (case hj => rfl)))
        intro w1 hb _
        have HB1 := Lib.hid (bOn HB.out hb)
        clear hb hGS
        go_wp2_with fail
        have hGS : Grows (fun w' => Below w1.heap.size w1 w') := Grows.below w1
        refine' wp_growL _ (fun w' => Below w1.heap.size w1 w') [[], [0], [1], [2], [], [3, 4], [], [6], [7], [8], [9], [5, 10]] (Fact.lit _ :: Fact.lit _ :: Fact.lit _ :: Fact.lit _ :: Fact.lit _ :: Fact.lit _ :: Fact.lit _ :: Fact.lit _ :: Fact.lit _ :: Fact.lit _ :: Fact.lit _ :: Fact.lit _ :: []) (by kernel_rfl) rfl (by kernel_rfl) (Below.refl _ _).drew ?seqcg
        case' seqcg => skip
        iterate 12 ((first | (apply grow_skip; (case hf => rfl); (case hw => rfl)) | (apply grow_lit; (case hf => rfl); (case hw => rfl); (case hrun => (intro w' hS H; clear H; (obtain ⟨c0, c1, c2, c3, -, -, -, -⟩ := (HK.out.keep (bOn HB1.out hS)).o4); clear hS; go_simp; first | done | exact rfl)))); (case hc => (simp only [Act.put, List.setIfInBounds_toArray, List.set_cons_zero, List.set_cons_succ]; first | done | exact rfl)); (try (case hj => rfl)))
        intro w2 hb _
        have HB2 := Lib.hid (bOn HB1.out hb)
        clear hb hGS
        go_wp2_with fail
        refine (fail6 (HR.out.below HB2.out) 3 (by decide)).mono ?_
        rintro ev wf ⟨rfl, hr, hb⟩
        have HF : Hid (U6Post .u64 (0, a, 3) w lo b l (.returned (.int .u64 0)) wf) := Lib.hid ⟨rfl, hr, (But.of_below HB2.out).trans hb⟩
        clear hr hb
        go_wp2_with fail
        go_ret
        rw [HE.out]
        exact HF.out

end Go.Proofs.YtjapdbegfanfiaaGreatDoor
