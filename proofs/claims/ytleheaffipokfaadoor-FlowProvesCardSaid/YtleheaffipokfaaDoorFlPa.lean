/-
  The document's own search: has an edge room, what has been reached, what is still to be looked at.
-/
import Derived.Test.YtleheaffipokfaaDoorFlDb
import Derived.Test.YtleheaffipokfaaDoorFlAp
import Derived.Test.YtleheaffipokfaaDoorFlKm
import Derived.RegionTactic
import Derived.BigQuiet
import Derived.IntWalk
namespace Go.Proofs.YtleheaffipokfaaDoor
open Go.RowKit

/-- Has an edge room from one of its ends to the other one? -/
def roomZ (a c f v : Int) : Int × Bool := if a = c then (0, false) else if a = v ∧ f ≠ 1 then (c, true) else if c = v ∧ f ≠ -1 then (a, true) else (0, false)
set_option maxHeartbeats 1000000 in
set_option maxRecDepth 100000 in
theorem room_is (w : World) (a c f v : Int) {r : Int} {b : Bool} (hr : roomZ a c f v = (r, b)) :
    Calls Tryd.prog 45 #[.agg #[.int .i64 a, .int .i64 c], .int .i64 f, .int .i64 v] w fun e w' => e = .returned (.tuple #[.int .i64 r, .bool b]) ∧ Below w.heap.size w w' := by
  obtain ⟨W1, hW1⟩ := named (w.alloc (.cells #[.int .i64 a, .int .i64 c] 33))
  have hb1 : Below w.heap.size w W1 := by rw [hW1]; exact below_alloc1 _
  obtain ⟨g, hg⟩ : ∃ g, w.heap.size = g := ⟨_, rfl⟩
  have k1 : Blk W1 g #[.int .i64 a, .int .i64 c] 33 := by rw [hW1]; exact Blk.new _ _ _ _ hg
  obtain ⟨x0, x1, -, -⟩ := k1.o2
  have xl := k1.lt
  have HB := Lib.hid hb1
  have e1 := hW1.symm
  clear hW1 hb1 k1
  by_cases h1 : a = c
  · subst h1
    obtain ⟨rfl, rfl⟩ : (0 : Int) = r ∧ false = b := by simpa [roomZ] using hr
    go_enter Tryd.func45, Tryd.ntmps45
    go_wp2_with fail
    exact bodyPost_ret (v := .tuple #[.int .i64 0, .bool false]) (by simp [results, Tryd.results45, go_sem]) rfl ⟨rfl, HB.out⟩
  have d1 : (a == c) = false := by simpa using h1
  by_cases h2 : a = v
  · subst h2
    by_cases h3 : f = 1
    · subst h3
      have d4 : (c == a) = false := by simpa using fun e : c = a => h1 e.symm
      obtain ⟨rfl, rfl⟩ : (0 : Int) = r ∧ false = b := by simpa [roomZ, h1, show ¬ c = a from fun e => h1 e.symm] using hr
      clear hr h1
      go_enter Tryd.func45, Tryd.ntmps45
      go_wp2_with fail
      exact bodyPost_ret (v := .tuple #[.int .i64 0, .bool false]) (by simp [results, Tryd.results45, go_sem]) rfl ⟨rfl, HB.out⟩
    · have d3 : (f != 1) = true := by simpa using h3
      obtain ⟨rfl, rfl⟩ : c = r ∧ true = b := by simpa [roomZ, h1, h3] using hr
      clear hr h1 h3
      go_enter Tryd.func45, Tryd.ntmps45
      go_wp2_with fail
      exact bodyPost_ret (v := .tuple #[.int .i64 c, .bool true]) (by simp [results, Tryd.results45, go_sem]) rfl ⟨rfl, HB.out⟩
  · have d2 : (a == v) = false := by simpa using h2
    by_cases h4 : c = v
    · subst h4
      by_cases h5 : f = -1
      · subst h5
        obtain ⟨rfl, rfl⟩ : (0 : Int) = r ∧ false = b := by simpa [roomZ, h1] using hr
        clear hr h1 h2
        go_enter Tryd.func45, Tryd.ntmps45
        go_wp2_with fail
        exact bodyPost_ret (v := .tuple #[.int .i64 0, .bool false]) (by simp [results, Tryd.results45, go_sem]) rfl ⟨rfl, HB.out⟩
      · have d5 : (f != -1) = true := by simpa using h5
        obtain ⟨rfl, rfl⟩ : a = r ∧ true = b := by simpa [roomZ, h1, h5] using hr
        clear hr h1 h2 h5
        go_enter Tryd.func45, Tryd.ntmps45
        go_wp2_with fail
        exact bodyPost_ret (v := .tuple #[.int .i64 a, .bool true]) (by simp [results, Tryd.results45, go_sem]) rfl ⟨rfl, HB.out⟩
    · have d4 : (c == v) = false := by simpa using h4
      obtain ⟨rfl, rfl⟩ : (0 : Int) = r ∧ false = b := by simpa [roomZ, h1, h2, h4] using hr
      clear hr h1 h2 h4
      go_enter Tryd.func45, Tryd.ntmps45
      go_wp2_with fail
      exact bodyPost_ret (v := .tuple #[.int .i64 0, .bool false]) (by simp [results, Tryd.results45, go_sem]) rfl ⟨rfl, HB.out⟩
end Go.Proofs.YtleheaffipokfaaDoor
