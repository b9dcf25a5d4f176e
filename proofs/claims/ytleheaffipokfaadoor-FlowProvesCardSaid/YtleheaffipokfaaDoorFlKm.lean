/-
  What a result that proves itself tells of all sets; a square with one edge across.
-/
import Derived.Test.YtleheaffipokfaaDoorFlCp
import Derived.Test.YtleheaffipokfaaDoorFlL
namespace Go.Proofs.YtleheaffipokfaaDoor
open Go.RowKit

theorem PrvQ.maxQ {N : Nat} {E : Edg} {S D : List Nat} {V : Int} {f : List Int} {near far : List Bool} (h : PrvQ N E S D V f near far) (hE : EdgIn N E) : MaxQ N E (setB (markL N S)) (setB (markL N D)) V (setB near) (setB far) := by
  rw [h.val]
  refine MaxQ.of h.flow hE (fun v hv => by have := setB_lt hv; rwa [markL_len] at this) (fun v hv => by have := setB_lt hv; rwa [markL_len] at this) h.near h.far (fun v hv => ?_)
  have hvN : v < N := by have := setB_lt hv; rwa [markL_len] at this
  rw [markL_in hvN] at hv
  exact h.none v (by simpa using hv)
/-- The square. -/
def KE : Edg := [(0, 1), (0, 2), (1, 2), (1, 3), (3, 2), (3, 3)]
theorem ke_in : EdgIn 4 KE := by
  intro i hi
  match i, hi with
  | 0, _ => decide
  | 1, _ => decide
  | 2, _ => decide
  | 3, _ => decide
  | 4, _ => decide
  | 5, _ => decide
theorem ke_cross (S : VSet) : crossS S KE = b1 (S 0 != S 1) + b1 (S 0 != S 2) + b1 (S 1 != S 2) + b1 (S 1 != S 3) + b1 (S 3 != S 2) + b1 (S 3 != S 3) := by
  simp [crossS, KE, sumN, eL]
theorem lt4 {P : Nat → Prop} (h0 : P 0) (h1 : P 1) (h2 : P 2) (h3 : P 3) : ∀ v, v < 4 → P v := fun v hv =>
  match v, hv with
  | 0, _ => h0
  | 1, _ => h1
  | 2, _ => h2
  | 3, _ => h3
theorem ke_max : MaxQ 4 KE (setB (markL 4 [0])) (setB (markL 4 [3])) 2 (setB [true, false, false, false]) (setB [true, true, true, false]) := by
  have h0 : ∀ {S : VSet}, IsCut 4 (setB (markL 4 [0])) (setB (markL 4 [3])) S → S 0 = true ∧ S 3 = false := fun h => ⟨h.has 0 (by decide) (by decide), h.none 3 (by decide) (by decide)⟩
  refine ⟨⟨lt4 (by decide) (by decide) (by decide) (by decide), lt4 (by decide) (by decide) (by decide) (by decide)⟩, ⟨lt4 (by decide) (by decide) (by decide) (by decide), lt4 (by decide) (by decide) (by decide) (by decide)⟩, by rw [ke_cross]; decide, by rw [ke_cross]; decide, fun S hS => ?_, fun S hS e => ?_⟩
  · rw [ke_cross, (h0 hS).1, (h0 hS).2]
    cases S 1 <;> cases S 2 <;> decide
  · rw [ke_cross, (h0 hS).1, (h0 hS).2] at e
    have h3 := (h0 hS).2
    have h00 := (h0 hS).1
    refine ⟨lt4 (fun _ => h00) (fun h => absurd h (by decide)) (fun h => absurd h (by decide)) (fun h => absurd h (by decide)), lt4 (fun _ => by decide) (fun _ => by decide) (fun _ => by decide) (fun h => by rw [h3] at h; cases h)⟩
theorem ke_ok : OkA ((4 : Nat) : Int) (zE KE) (zN [0]) (zN [3]) := by
  refine ⟨by decide, ?_, ?_, ?_⟩ <;> decide
theorem ke_ok2 : OkA ((4 : Nat) : Int) (zE KE) (zN [0]) (zN [0]) := by
  refine ⟨by decide, ?_, ?_, ?_⟩ <;> decide
theorem ke_once : ¬ Twice (zN [0]) (zN [3]) := by
  rintro ⟨x, h1, h2⟩
  simp [zN] at h1 h2
  omega
theorem ke_twice : Twice (zN [0]) (zN [0]) := ⟨0, by decide, by decide⟩
/-- What Max tells of it. -/
theorem ke_told {V : Int} {f : List Int} {near far : List Bool} (h : PrvQ 4 KE [0] [3] V f near far) : V = 2 ∧ near = [true, false, false, false] ∧ far = [true, true, true, false] := by
  obtain ⟨h1, h2, h3⟩ := (h.maxQ ke_in).uniq ke_max
  exact ⟨h1, setB_ext (by rw [h.nl]; rfl) (fun v hv => by rw [h.nl] at hv; rw [h2 v hv]), setB_ext (by rw [h.gl]; rfl) (fun v hv => by rw [h.gl] at hv; rw [h3 v hv])⟩
abbrev keC : Array Value := #[.int .i64 0, .int .i64 1, .int .i64 0, .int .i64 2, .int .i64 1, .int .i64 2, .int .i64 1, .int .i64 3, .int .i64 3, .int .i64 2, .int .i64 3, .int .i64 3]
theorem ke_prs {w : World} {g : Nat} (h : Blk w g keC 33) : Prs w (.slice (some ⟨g, 0, none⟩) 6 6) (zE KE) := by
  refine Or.inr ⟨by decide, g, 0, 6, by decide, by omega, rfl, fun i hi => ?_⟩
  rw [Nat.zero_add]
  have hi' : i < 6 := hi
  match i, hi' with
  | 0, _ => exact ⟨h.cell 0 rfl, h.cell 1 rfl⟩
  | 1, _ => exact ⟨h.cell 2 rfl, h.cell 3 rfl⟩
  | 2, _ => exact ⟨h.cell 4 rfl, h.cell 5 rfl⟩
  | 3, _ => exact ⟨h.cell 6 rfl, h.cell 7 rfl⟩
  | 4, _ => exact ⟨h.cell 8 rfl, h.cell 9 rfl⟩
  | 5, _ => exact ⟨h.cell 10 rfl, h.cell 11 rfl⟩
theorem one_i64s {w : World} {g : Nat} {t : TypeId} {x : Nat} (h : Blk w g #[.int .i64 (x : Int)] t) : I64s w (.slice (some ⟨g, 0, none⟩) 1 1) (zN [x]) := by
  refine Or.inr ⟨by simp [zN], g, 0, 1, by simp [zN], by omega, rfl, fun i hi => ?_⟩
  rw [Nat.zero_add]
  have hi' : i < 1 := by simpa [zN] using hi
  obtain rfl : i = 0 := by omega
  exact h.cell 0 rfl
theorem four_bools {w : World} {g : Nat} {t : TypeId} {a b c d : Bool} (h : Blk w g #[.bool a, .bool b, .bool c, .bool d] t) : Bools w (.slice (some ⟨g, 0, none⟩) 4 4) [a, b, c, d] := by
  refine Or.inr ⟨by simp, g, 0, 4, by simp, by omega, rfl, fun i hi => ?_⟩
  rw [Nat.zero_add]
  have hi' : i < 4 := hi
  match i, hi' with
  | 0, _ => exact h.cell 0 rfl
  | 1, _ => exact h.cell 1 rfl
  | 2, _ => exact h.cell 2 rfl
  | 3, _ => exact h.cell 3 rfl
end Go.Proofs.YtleheaffipokfaaDoor
