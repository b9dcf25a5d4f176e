/-
  Where an edge leads: the program's along.
-/
import Derived.Test.YtleheaffipokfaaDoorFlV
namespace Go.Proofs.YtleheaffipokfaaDoor
open Go.RowKit

section
variable {P : Nat → Prop} {w w' : World} {p N : Nat} {E : Edg} {A B : List Bool} {ev sv dv fv : Value} {ab : Nat} {us : List Value}
set_option maxHeartbeats 2000000 in
set_option maxRecDepth 100000 in
theorem along_is (h : WebS P w p N E A B ev sv dv fv ab us) {i v : Nat} (hi : i < E.length) {x : Nat} {y : Int} (hxy : alongE E i v = (x, y)) :
    Calls Tryd.prog 44 #[pt p, .int .i64 i, .int .i64 v] w fun e w' => e = .returned (.tuple #[.int .i64 x, .int .i64 y]) ∧ Below w.heap.size w w' := by
  obtain ⟨q, c, rfl⟩ := h.e.shape
  have hz := zE_len E
  obtain ⟨b, o, rfl, e0, e1⟩ := h.e.at (k := i) (by omega)
  rw [zE_at] at e0 e1
  obtain ⟨x0, x1, x2, x3, x4, -, -, -, -, -⟩ := h.k.o5
  have hpl := h.k.lt
  have hel := World.block_lt_of_cell? w _ e0
  have hii : (i : Int) < ((zE E).length : Int) := by omega
  unfold alongE at hxy
  generalize (eL E i).1 = a at e0 hxy
  generalize (eL E i).2 = d at e1 hxy
  have hr : ((v : Int) == (a : Int)) = decide (v = a) := by
    by_cases hc : v = a
    · subst hc; simp
    · have : ¬ (v : Int) = a := by omega
      simp [hc, this]
  clear h hz
  by_cases hc : v = a
  · rw [if_pos hc] at hxy
    obtain ⟨rfl, rfl⟩ := Prod.mk.inj hxy
    have hr1 : ((v : Int) == (a : Int)) = true := by rw [hr]; simpa using hc
    clear hr hc hxy
    go_enter Tryd.func44, Tryd.ntmps44
    go_wp2_with fail
    go_ret2
    exact ⟨rfl, below_alloc1 _⟩
  · rw [if_neg hc] at hxy
    obtain ⟨rfl, rfl⟩ := Prod.mk.inj hxy
    have hr1 : ((v : Int) == (a : Int)) = false := by rw [hr]; simpa using hc
    clear hr hc hxy
    go_enter Tryd.func44, Tryd.ntmps44
    go_wp2_with fail
    go_ret2
    exact ⟨rfl, below_alloc1 _⟩
end
end Go.Proofs.YtleheaffipokfaaDoor
