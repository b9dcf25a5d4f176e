/-
  cmp.Compare, cmp.Or, a point's key, and how two places stand: the program's, by values.
-/
import Derived.Test.YtleheaffipokfaaLnM
import Derived.Test.YtleheaffipokfaaFlK
import Derived.Test.YtleheaffipokfaaGrowH
import Derived.Sort.Grow
import Derived.RegionTactic
import Derived.BigQuiet
import Derived.IntWalk
namespace Go.Proofs.Ytleheaffipokfaa
open Go.RowKit Go.Sort

/-- w' is w with more blocks, and some draws on. -/
def Gro (w w' : World) : Prop := ∃ (q : Nat) (os : Array Obj), w' = grow (w.drewN q) os
theorem Gro.refl (w : World) : Gro w w := ⟨0, #[], by rw [grow_empty]; rfl⟩
theorem Gro.trans {u v w : World} (h : Gro u v) (k : Gro v w) : Gro u w := by
  obtain ⟨q, os, rfl⟩ := h
  obtain ⟨q', os', rfl⟩ := k
  refine ⟨q + q', os ++ os', ?_⟩
  show grow (grow ((u.drewN q).drewN q') os) os' = _
  rw [grow_grow, World.drewN_drewN]
theorem Gro.new (w : World) (o : Obj) : Gro w (w.alloc o) := ⟨0, #[o], by rw [alloc_eq_grow]; rfl⟩
theorem Gro.drewN (w : World) (n : Nat) : Gro w (w.drewN n) := ⟨n, #[], by rw [grow_empty]⟩
theorem Gro.drew (w : World) : Gro w w.drew := Gro.drewN w 1
theorem Gro.below {w w' : World} (h : Gro w w') : Below w.heap.size w w' := by
  obtain ⟨q, os, rfl⟩ := h
  exact ⟨rfl, rfl, rfl, by simp [grow, World.drewN], fun k hk => by simp [grow, World.drewN, Array.getElem?_append_left hk]⟩

/-- What cmp.Compare tells. -/
def cmpI (x y : Int) : Int := if x < y then -1 else if y < x then 1 else 0
def cmpK (l : List (Int × Int)) (d : Int) (a b : Nat) : Int := if cmpI (kAt l d a) (kAt l d b) = 0 then cmpI (a : Int) (b : Int) else cmpI (kAt l d a) (kAt l d b)

theorem isnan_is (x : Int) (w : World) : Calls Try.prog 25 #[.int .i64 x] w fun e w' => e = .returned (.bool false) ∧ w = w' := by
  go_enter Try.func25, Try.ntmps25
  go_wp2_with fail
  go_ret
  exact ⟨by simp, rfl⟩
theorem compare_is (x y : Int) (w : World) {r : Int} (hr : cmpI x y = r) : Calls Try.prog 20 #[.int .i64 x, .int .i64 y] w fun e w' => e = .returned (.int .i64 r) ∧ w = w' := by
  unfold cmpI at hr
  by_cases h1 : x < y
  · obtain rfl : r = -1 := by rw [← hr, if_pos h1]
    clear hr
    go_enter Try.func20, Try.ntmps20
    go_wp2_with fail
    refine (isnan_is _ _).mono ?_
    rintro e w1 ⟨rfl, rfl⟩
    go_wp2_with fail
    refine (isnan_is _ _).mono ?_
    rintro e w1 ⟨rfl, rfl⟩
    go_wp2_with fail
    go_ret
    exact ⟨rfl, rfl⟩
  · by_cases h2 : y < x
    · obtain rfl : r = 1 := by rw [← hr, if_neg h1, if_pos h2]
      clear hr
      go_enter Try.func20, Try.ntmps20
      go_wp2_with fail
      refine (isnan_is _ _).mono ?_
      rintro e w1 ⟨rfl, rfl⟩
      go_wp2_with fail
      refine (isnan_is _ _).mono ?_
      rintro e w1 ⟨rfl, rfl⟩
      go_wp2_with fail
      go_ret
      exact ⟨rfl, rfl⟩
    · obtain rfl : r = 0 := by rw [← hr, if_neg h1, if_neg h2]
      obtain rfl : x = y := by omega
      clear hr h1 h2
      go_enter Try.func20, Try.ntmps20
      go_wp2_with fail
      refine (isnan_is _ _).mono ?_
      rintro e w1 ⟨rfl, rfl⟩
      go_wp2_with fail
      refine (isnan_is _ _).mono ?_
      rintro e w1 ⟨rfl, rfl⟩
      go_wp2_with fail
      go_ret
      exact ⟨rfl, rfl⟩
set_option maxHeartbeats 2000000 in
theorem or_is (x y : Int) (g : Nat) (w : World) (hk : Blk w g #[.int .i64 x, .int .i64 y] 3) {r : Int} (hr : (if x = 0 then y else x) = r) : Calls Try.prog 19 #[.slice (some ⟨g, 0, none⟩) 2 2] w fun e w' => e = .returned (.int .i64 r) ∧ w = w' := by
  have c0 := hk.cell 0 rfl
  have c1 := hk.cell 1 rfl
  have cl := hk.lt
  clear hk
  by_cases h1 : x = 0
  · subst h1
    obtain rfl : y = r := by rw [← hr, if_pos rfl]
    by_cases h2 : y = 0
    · subst h2
      clear hr
      go_enter Try.func19, Try.ntmps19
      go_wp2_with fail
      refine wp_loop_rounds 3 ?_
      rw [rounds_succ]
      go_wp2_with fail
      rw [rounds_succ]
      go_wp2_with fail
      rw [rounds_succ]
      go_wp2_with fail
      go_ret
      exact ⟨rfl, rfl⟩
    · have d2 : (y != 0) = true := by simpa using h2
      clear hr h2
      go_enter Try.func19, Try.ntmps19
      go_wp2_with fail
      refine wp_loop_rounds 2 ?_
      rw [rounds_succ]
      go_wp2_with fail
      rw [rounds_succ]
      go_wp2_with fail
      go_ret
      exact ⟨rfl, rfl⟩
  · obtain rfl : x = r := by rw [← hr, if_neg h1]
    have d2 : (x != 0) = true := by simpa using h1
    clear hr h1
    go_enter Try.func19, Try.ntmps19
    go_wp2_with fail
    refine wp_loop_rounds 1 ?_
    rw [rounds_succ]
    go_wp2_with fail
    go_ret
    exact ⟨rfl, rfl⟩
/-- Points whose sums are numbers. -/
def SmallP (p : Int × Int) : Prop := (-1099511627776 ≤ p.1 ∧ p.1 ≤ 1099511627776) ∧ -1099511627776 ≤ p.2 ∧ p.2 ≤ 1099511627776
def SmallL (l : List (Int × Int)) : Prop := ∀ x ∈ l, SmallP x
theorem SmallL.at {l : List (Int × Int)} (h : SmallL l) {i : Nat} (hi : i < l.length) : SmallP l[i] := h _ (List.getElem_mem hi)
set_option maxHeartbeats 2000000 in
theorem key_is (x y d : Int) (w : World) (hs : SmallP (x, y)) {r : Int} (hr : keyL (x, y) d = r) : Calls Try.prog 10 #[.agg #[.int .i64 x, .int .i64 y], .int .i64 d] w fun e w' => e = .returned (.int .i64 r) ∧ Gro w w' := by
  obtain ⟨⟨s0, s1⟩, s2, s3⟩ := hs
  simp only at s0 s1 s2 s3
  obtain ⟨W1, hW1⟩ := named (w.alloc (.cells #[.int .i64 x, .int .i64 y] 30))
  obtain ⟨g, hg⟩ : ∃ g, w.heap.size = g := ⟨_, rfl⟩
  have k1 : Blk W1 g #[.int .i64 x, .int .i64 y] 30 := by rw [hW1]; exact Blk.new _ _ _ _ hg
  have HG : Hid (Gro w W1) := Lib.hid (by rw [hW1]; exact Gro.new _ _)
  have c0 := k1.cell 0 rfl
  have c1 := k1.cell 1 rfl
  have f0 := k1.free 0
  have cl := k1.lt
  have e1 := hW1.symm
  have wn : IntKind.i64.wrap (-y) = -y := IntWalk.i64_in _ (by omega)
  have ws : IntKind.i64.wrap (x + y) = x + y := IntWalk.i64_in _ (by omega)
  have wt : IntKind.i64.wrap (x + -y) = x + -y := IntWalk.i64_in _ (by omega)
  clear hW1 k1
  unfold keyL at hr
  by_cases h0 : d = 0
  · subst h0
    obtain rfl : x = r := by rw [← hr]; simp
    clear hr
    clear wn ws wt
    go_enter Try.func10, Try.ntmps10
    go_wp2_with fail
    clear e1 hg
    go_quiet (fail)
    go_wp2_with fail
    go_ret
    exact ⟨rfl, HG.out.trans (Gro.drewN _ _)⟩
  by_cases h1 : d = 1
  · subst h1
    obtain rfl : y = r := by rw [← hr]; simp
    clear hr h0
    clear wn ws wt
    go_enter Try.func10, Try.ntmps10
    go_wp2_with fail
    clear e1 hg
    go_quiet (fail)
    go_wp2_with fail
    go_ret
    exact ⟨rfl, HG.out.trans (Gro.drewN _ _)⟩
  by_cases h3 : d = 3
  · subst h3
    obtain rfl : x - y = r := by rw [← hr]; simp
    clear hr h0 h1
    clear ws
    go_enter Try.func10, Try.ntmps10
    go_wp2_with fail
    clear e1 hg
    go_quiet (fail)
    go_wp2_with fail
    go_ret
    exact ⟨by rw [Int.sub_eq_add_neg]; rfl, HG.out.trans (Gro.drewN _ _)⟩
  by_cases h2 : d = 2
  · subst h2
    obtain rfl : x + y = r := by rw [← hr]; simp
    clear hr h0 h1 h3
    clear wn wt
    go_enter Try.func10, Try.ntmps10
    go_wp2_with fail
    clear e1 hg
    go_quiet (fail)
    go_wp2_with fail
    go_ret
    exact ⟨rfl, HG.out.trans (Gro.drewN _ _)⟩
  obtain rfl : 0 = r := by rw [← hr, if_neg h0, if_neg h1, if_neg h3, if_neg h2]
  have d0 : (d == 0) = false := by simpa using h0
  have d1 : (d == 1) = false := by simpa using h1
  have d3 : (d == 3) = false := by simpa using h3
  have d2 : (d == 2) = false := by simpa using h2
  clear hr h0 h1 h2 h3 wn ws wt
  go_enter Try.func10, Try.ntmps10
  go_wp2_with fail
  clear e1 hg
  go_quiet (fail)
  go_wp2_with fail
  go_ret
  exact ⟨rfl, HG.out.trans (Gro.drewN _ _)⟩
end Go.Proofs.Ytleheaffipokfaa
