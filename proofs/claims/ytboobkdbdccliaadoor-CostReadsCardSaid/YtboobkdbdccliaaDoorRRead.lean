/-
  The document's own reading of a text.
-/
import Derived.Test.YtboobkdbdccliaaDoorRead
namespace Go.Proofs.YtboobkdbdccliaaDoor
open Go.RowKit

/-- What the document's Read answers: the number, and a Wrong by its one part (e = 0: none). -/
def RRead (v : Int) (ps : List (ByteArray × Int)) (e : Int) (w : World) (ev : Ending) (w' : World) : Prop :=
  ∃ wv, ev = .returned (.tuple #[.int .i64 v, wv]) ∧ WrongV w' wv ps e ∧ Below w.heap.size w w'

set_option maxHeartbeats 400000 in
theorem rread_dash (s : ByteArray) (w : World) (h : s.toList = [45]) :
    Calls Tryd.prog 23 #[.string s] w (RRead 1152921504606846976 [] 0 w) := by
  have h' : (s.toList == [45]) = true := by rw [h]; rfl
  clear h
  go_enter Tryd.func23, Tryd.ntmps23
  go_wp2
  exact bodyPost_ret (v := .tuple #[.int .i64 1152921504606846976, .agg #[.slice none 0 0, .int .i64 0]]) (by simp [results, Tryd.results23, go_sem]) rfl ⟨_, rfl, ⟨_, rfl, Or.inl ⟨rfl, rfl⟩⟩, (Below.refl _ _).alloc (Nat.le_refl _) _⟩

set_option maxHeartbeats 400000 in
theorem rread_form (s : ByteArray) (w : World) (hs : s.size ≤ 9223372036854775807) (h : ¬ s.toList = [45]) (hn : numB s.data.toList = false) :
    Calls Tryd.prog 23 #[.string s] w (RRead 0 [(costB, 0)] 2 w) := by
  have h' : (s.toList == [45]) = false := by simpa using h
  clear h
  go_enter Tryd.func23, Tryd.ntmps23
  go_wp2_with (first | (go_at_call 30; refine (digits_any s _ hs).mono ?_; rintro e w' ⟨rfl, rfl⟩) | (go_at_call 25; refine (at_any costB _ _ _).mono ?_; rintro e w' ⟨rfl, rfl⟩))
  refine bodyPost_ret (v := .tuple #[.int .i64 0, .agg #[.slice (some ⟨w.heap.size + 1 + 1, 0, none⟩) 1 1, .int .i64 2]]) (by simp [results, Tryd.results23, go_sem]) rfl ⟨_, rfl, ?_, (((Below.refl _ _).alloc (Nat.le_refl _) _).alloc (by simp) _).alloc (by simp; omega) _⟩
  refine ⟨_, rfl, Or.inr ⟨by simp, w.heap.size + 1 + 1, 0, 1, rfl, fun i h => ?_, fun i h => ?_⟩⟩
  · obtain rfl : i = 0 := by simpa using h
    rw [World.cell?_alloc_at _ _ _ _ (by simp)]; rfl
  · obtain rfl : i = 0 := by simpa using h
    rw [World.cell?_alloc_at _ _ _ _ (by simp)]; rfl

/-- Of digits: the number where it is below Inf, else a Wrong. -/
def RReadNum (v : Int) (w : World) (ev : Ending) (w' : World) : Prop :=
  (v < 1152921504606846976 ∧ RRead v [] 0 w ev w') ∨ (1152921504606846976 ≤ v ∧ RRead 0 [(costB, 0)] 8 w ev w')

set_option maxHeartbeats 400000 in
theorem rread_num (s : ByteArray) (w : World) (hs : s.size ≤ 9223372036854775807) (h : ¬ s.toList = [45]) (hn : numB s.data.toList = true) :
    Calls Tryd.prog 23 #[.string s] w (RReadNum (decV s.data.toList) w) := by
  have h' : (s.toList == [45]) = false := by simpa using h
  have ha := Lib.hid (numB_all _ hn)
  clear h
  go_enter Tryd.func23, Tryd.ntmps23
  go_wp2_with (go_at_call 30; refine (digits_any s _ hs).mono ?_; rintro e w' ⟨rfl, rfl⟩)
  refine (value_any s _ _ hs (by omega) (by omega) ha.out).mono ?_
  rintro e w' ⟨⟨hv, rfl⟩ | ⟨hv, rfl⟩, rfl⟩
  · have HV := Lib.hid hv
    clear hv
    go_wp2
    refine bodyPost_ret (v := .tuple #[.int .i64 (decV s.data.toList), .agg #[.slice none 0 0, .int .i64 0]]) (by simp [results, Tryd.results23, go_sem]) rfl ?_
    exact Or.inl ⟨by have := HV.out; omega, _, rfl, ⟨_, rfl, Or.inl ⟨rfl, rfl⟩⟩, (Below.refl _ _).alloc (Nat.le_refl _) _⟩
  · have HV := Lib.hid hv
    clear hv
    go_wp2_with (go_at_call 25; refine (at_any costB _ _ _).mono ?_; rintro e w' ⟨rfl, rfl⟩)
    refine bodyPost_ret (v := .tuple #[.int .i64 0, .agg #[.slice (some ⟨w.heap.size + 1 + 1, 0, none⟩) 1 1, .int .i64 8]]) (by simp [results, Tryd.results23, go_sem]) rfl ?_
    refine Or.inr ⟨by have := HV.out; omega, _, rfl, ?_, (((Below.refl _ _).alloc (Nat.le_refl _) _).alloc (by simp) _).alloc (by simp; omega) _⟩
    refine ⟨_, rfl, Or.inr ⟨by simp, w.heap.size + 1 + 1, 0, 1, rfl, fun i h => ?_, fun i h => ?_⟩⟩
    · obtain rfl : i = 0 := by simpa using h
      rw [World.cell?_alloc_at _ _ _ _ (by simp)]; rfl
    · obtain rfl : i = 0 := by simpa using h
      rw [World.cell?_alloc_at _ _ _ _ (by simp)]; rfl

end Go.Proofs.YtboobkdbdccliaaDoor
