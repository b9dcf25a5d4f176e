/-
  cmp.Compare, cmp.Or, a point's key, and how two places stand: the program's, by values.
-/
import Derived.Test.YthfljimgpcignaaGreatDoorLnM
import Derived.Test.YthfljimgpcignaaGreatDoorG8
import Derived.Test.YthfljimgpcignaaGreatDoorG5
import Derived.Sort.Grow
import Derived.RegionTactic
import Derived.BigQuiet
import Derived.IntWalk
namespace Go.Proofs.YthfljimgpcignaaGreatDoor
open Go.RowKit Go.Sort

/-- w' is w with more blocks, and some draws on. -/
def Gro (w w' : World) : Prop := ∃ (q : Nat) (os : Array Obj), w' = grow (w.drewN q) os
theorem Gro.refl (w : World) : Gro w w := ⟨0, #[], by rw [grow_empty]; rfl⟩
theorem Gro.trans {u v w : World} (h : Gro u v) (k : Gro v w) : Gro u w := by
  obtain ⟨q, os, rfl⟩ := h
  obtain ⟨q', os', rfl⟩ := k
  refine ⟨q + q', os ++ os', ?_⟩
  show grow (grow ((u.drewN q).drewN q') os) os' = _
  rw [grow_grow, World.drewN_drewN]
theorem Gro.new (w : World) (o : Obj) : Gro w (w.alloc o) := ⟨0, #[o], by rw [alloc_eq_grow]; rfl⟩
theorem Gro.drewN (w : World) (n : Nat) : Gro w (w.drewN n) := ⟨n, #[], by rw [grow_empty]⟩
theorem Gro.drew (w : World) : Gro w w.drew := Gro.drewN w 1
theorem Gro.below {w w' : World} (h : Gro w w') : Below w.heap.size w w' := by
  obtain ⟨q, os, rfl⟩ := h
  exact ⟨rfl, rfl, rfl, by simp [grow, World.drewN], fun k hk => by simp [grow, World.drewN, Array.getElem?_append_left hk]⟩

/-- What cmp.Compare tells. -/
def cmpI (x y : Int) : Int := if x < y then -1 else if y < x then 1 else 0
def cmpK (l : List (Int × Int)) (d : Int) (a b : Nat) : Int := if cmpI (kAt l d a) (kAt l d b) = 0 then cmpI (a : Int) (b : Int) else cmpI (kAt l d a) (kAt l d b)

theorem isnan_is (x : Int) (w : World) : Calls Tryz.prog 55 #[.int .i64 x] w fun e w' => e = .returned (.bool false) ∧ w = w' := by
  go_enter Tryz.func55, Tryz.ntmps55
  go_wp2_with fail
  go_ret
  exact ⟨by simp, rfl⟩
theorem compare_is (x y : Int) (w : World) {r : Int} (hr : cmpI x y = r) : Calls Tryz.prog 39 #[.int .i64 x, .int .i64 y] w fun e w' => e = .returned (.int .i64 r) ∧ w = w' := by
  unfold cmpI at hr
  by_cases h1 : x < y
  · obtain rfl : r = -1 := by rw [← hr, if_pos h1]
    clear hr
    go_enter Tryz.func39, Tryz.ntmps39
    go_wp2_with fail
    refine (isnan_is _ _).mono ?_
    rintro e w1 ⟨rfl, rfl⟩
    go_wp2_with fail
    refine (isnan_is _ _).mono ?_
    rintro e w1 ⟨rfl, rfl⟩
    go_wp2_with fail
    go_ret
    exact ⟨rfl, rfl⟩
  · by_cases h2 : y < x
    · obtain rfl : r = 1 := by rw [← hr, if_neg h1, if_pos h2]
      clear hr
      go_enter Tryz.func39, Tryz.ntmps39
      go_wp2_with fail
      refine (isnan_is _ _).mono ?_
      rintro e w1 ⟨rfl, rfl⟩
      go_wp2_with fail
      refine (isnan_is _ _).mono ?_
      rintro e w1 ⟨rfl, rfl⟩
      go_wp2_with fail
      go_ret
      exact ⟨rfl, rfl⟩
    · obtain rfl : r = 0 := by rw [← hr, if_neg h1, if_neg h2]
      obtain rfl : x = y := by omega
      clear hr h1 h2
      go_enter Tryz.func39, Tryz.ntmps39
      go_wp2_with fail
      refine (isnan_is _ _).mono ?_
      rintro e w1 ⟨rfl, rfl⟩
      go_wp2_with fail
      refine (isnan_is _ _).mono ?_
      rintro e w1 ⟨rfl, rfl⟩
      go_wp2_with fail
      go_ret
      exact ⟨rfl, rfl⟩
set_option maxHeartbeats 2000000 in
theorem or_is (x y : Int) (g : Nat) (w : World) (hk : Blk w g #[.int .i64 x, .int .i64 y] 3) {r : Int} (hr : (if x = 0 then y else x) = r) : Calls Tryz.prog 38 #[.slice (some ⟨g, 0, none⟩) 2 2] w fun e w' => e = .returned (.int .i64 r) ∧ w = w' := by
  have c0 := hk.cell 0 rfl
  have c1 := hk.cell 1 rfl
  have cl := hk.lt
  clear hk
  by_cases h1 : x = 0
  · subst h1
    obtain rfl : y = r := by rw [← hr, if_pos rfl]
    by_cases h2 : y = 0
    · subst h2
      clear hr
      go_enter Tryz.func38, Tryz.ntmps38
      go_wp2_with fail
      refine wp_loop_rounds 3 ?_
      rw [rounds_succ]
      go_wp2_with fail
      rw [rounds_succ]
      go_wp2_with fail
      rw [rounds_succ]
      go_wp2_with fail
      go_ret
      exact ⟨rfl, rfl⟩
    · have d2 : (y != 0) = true := by simpa using h2
      clear hr h2
      go_enter Tryz.func38, Tryz.ntmps38
      go_wp2_with fail
      refine wp_loop_rounds 2 ?_
      rw [rounds_succ]
      go_wp2_with fail
      rw [rounds_succ]
      go_wp2_with fail
      go_ret
      exact ⟨rfl, rfl⟩
  · obtain rfl : x = r := by rw [← hr, if_neg h1]
    have d2 : (x != 0) = true := by simpa using h1
    clear hr h1
    go_enter Tryz.func38, Tryz.ntmps38
    go_wp2_with fail
    refine wp_loop_rounds 1 ?_
    rw [rounds_succ]
    go_wp2_with fail
    go_ret
    exact ⟨rfl, rfl⟩
/-- Points whose sums are numbers. -/
def SmallP (p : Int × Int) : Prop := (-1099511627776 ≤ p.1 ∧ p.1 ≤ 1099511627776) ∧ -1099511627776 ≤ p.2 ∧ p.2 ≤ 1099511627776
def SmallL (l : List (Int × Int)) : Prop := ∀ x ∈ l, SmallP x
theorem SmallL.at {l : List (Int × Int)} (h : SmallL l) {i : Nat} (hi : i < l.length) : SmallP l[i] := h _ (List.getElem_mem hi)
set_option maxHeartbeats 2000000 in
theorem key_is (x y d : Int) (w : World) (hs : SmallP (x, y)) {r : Int} (hr : keyL (x, y) d = r) : Calls Tryz.prog 49 #[.agg #[.int .i64 x, .int .i64 y], .int .i64 d] w fun e w' => e = .returned (.int .i64 r) ∧ Gro w w' := by
  obtain ⟨⟨s0, s1⟩, s2, s3⟩ := hs
  simp only at s0 s1 s2 s3
  obtain ⟨W1, hW1⟩ := named (w.alloc (.cells #[.int .i64 x, .int .i64 y] 44))
  obtain ⟨g, hg⟩ : ∃ g, w.heap.size = g := ⟨_, rfl⟩
  have k1 : Blk W1 g #[.int .i64 x, .int .i64 y] 44 := by rw [hW1]; exact Blk.new _ _ _ _ hg
  have HG : Hid (Gro w W1) := Lib.hid (by rw [hW1]; exact Gro.new _ _)
  have c0 := k1.cell 0 rfl
  have c1 := k1.cell 1 rfl
  have f0 := k1.free 0
  have cl := k1.lt
  have e1 := hW1.symm
  have wn : IntKind.i64.wrap (-y) = -y := IntWalk.i64_in _ (by omega)
  have ws : IntKind.i64.wrap (x + y) = x + y := IntWalk.i64_in _ (by omega)
  have wt : IntKind.i64.wrap (x + -y) = x + -y := IntWalk.i64_in _ (by omega)
  clear hW1 k1
  unfold keyL at hr
  by_cases h0 : d = 0
  · subst h0
    obtain rfl : x = r := by rw [← hr]; simp
    clear hr
    clear wn ws wt
    go_enter Tryz.func49, Tryz.ntmps49
    go_wp2_with fail
    clear e1 hg
    go_quiet (fail)
    go_wp2_with fail
    go_ret
    exact ⟨rfl, HG.out.trans (Gro.drewN _ _)⟩
  by_cases h1 : d = 1
  · subst h1
    obtain rfl : y = r := by rw [← hr]; simp
    clear hr h0
    clear wn ws wt
    go_enter Tryz.func49, Tryz.ntmps49
    go_wp2_with fail
    clear e1 hg
    go_quiet (fail)
    go_wp2_with fail
    go_ret
    exact ⟨rfl, HG.out.trans (Gro.drewN _ _)⟩
  by_cases h3 : d = 3
  · subst h3
    obtain rfl : x - y = r := by rw [← hr]; simp
    clear hr h0 h1
    clear ws
    go_enter Tryz.func49, Tryz.ntmps49
    go_wp2_with fail
    clear e1 hg
    go_quiet (fail)
    go_wp2_with fail
    go_ret
    exact ⟨by rw [Int.sub_eq_add_neg]; rfl, HG.out.trans (Gro.drewN _ _)⟩
  by_cases h2 : d = 2
  · subst h2
    obtain rfl : x + y = r := by rw [← hr]; simp
    clear hr h0 h1 h3
    clear wn wt
    go_enter Tryz.func49, Tryz.ntmps49
    go_wp2_with fail
    clear e1 hg
    go_quiet (fail)
    go_wp2_with fail
    go_ret
    exact ⟨rfl, HG.out.trans (Gro.drewN _ _)⟩
  obtain rfl : 0 = r := by rw [← hr, if_neg h0, if_neg h1, if_neg h3, if_neg h2]
  have d0 : (d == 0) = false := by simpa using h0
  have d1 : (d == 1) = false := by simpa using h1
  have d3 : (d == 3) = false := by simpa using h3
  have d2 : (d == 2) = false := by simpa using h2
  clear hr h0 h1 h2 h3 wn ws wt
  go_enter Tryz.func49, Tryz.ntmps49
  go_wp2_with fail
  clear e1 hg
  go_quiet (fail)
  go_wp2_with fail
  go_ret
  exact ⟨rfl, HG.out.trans (Gro.drewN _ _)⟩
end Go.Proofs.YthfljimgpcignaaGreatDoor

/-
  How two places stand in the row: the closure that Order hands to the sort.
-/
namespace Go.Proofs.YthfljimgpcignaaGreatDoor
open Go.RowKit Go.Sort

/-- A region that only makes memory, and draws. -/
structure GG.GroS (W : World) (_ : Nat → Bool) (_ : Unit) (w : World) : Prop where
  g : Gro W w
def GG.RlL (_ : Unit) (w : World) (_ : Unit) (w' : World) : Prop := Below w.heap.size w w'
theorem GG.GroS.still {W : World} {i : Nat} : GG.Still (GG.GroS W) GG.RlL i := ⟨fun _ _ _ h => ⟨h.g⟩, fun _ _ => Below.refl _ _⟩
def Pair2 (x y : Int) (v : Value) (_ : Unit) (w : World) : Prop := ∃ g, v = .slice (some ⟨g, 0, none⟩) 2 2 ∧ Blk w g #[.int .i64 x, .int .i64 y] 3
theorem Pair2.st {x y : Int} (v : Value) (s : Unit) (w : World) (s' : Unit) (w' : World) (h : Pair2 x y v s w) (hr : GG.RlL s w s' w') : Pair2 x y v s' w' := by
  obtain ⟨g, e, hk⟩ := h
  exact ⟨g, e, hk.keep hr⟩
set_option maxHeartbeats 4000000 in
set_option maxRecDepth 100000 in
theorem stand_is {W : World} {pb db : Nat} {pv : Value} {l : List (Int × Int)} {d : Int} {a b : Nat} (hp : Blk W pb #[pv] 22) (hd : Blk W db #[.int .i64 d] 3) (hl : Prs W pv l) (hs : SmallL l) (ha : a < l.length) (hb : b < l.length) {r : Int} (hr : cmpK l d a b = r) :
    Calls Tryz.prog 48 #[.int .i64 a, .int .i64 b, .pointer (some ⟨pb, 0, none⟩), .pointer (some ⟨db, 0, none⟩)] W fun e w' => e = .returned (.int .i64 r) ∧ Gro W w' := by
  have SA := Lib.hid (hs.at ha)
  have SB := Lib.hid (hs.at hb)
  have hll := hl.le
  have HKA : Hid (keyL l[a] d = kAt l d a) := Lib.hid (by simp [kAt, ha])
  have HKB : Hid (keyL l[b] d = kAt l d b) := Lib.hid (by simp [kAt, hb])
  obtain ⟨q, c, rfl⟩ := hl.shape
  obtain ⟨tb, to, rfl, a0, a1⟩ := hl.at ha
  obtain ⟨tb', to', e, b0, b1⟩ := hl.at hb
  injection e with e
  injection e with e1 e2
  subst e1 e2
  unfold cmpK at hr
  generalize l[a] = xa at a0 a1 SA HKA
  generalize l[b] = xb at b0 b1 SB HKB
  obtain ⟨xa, ya⟩ := xa
  obtain ⟨xb, yb⟩ := xb
  generalize kAt l d a = ka at hr HKA
  generalize kAt l d b = kb at hr HKB
  obtain ⟨c1, hc1⟩ : ∃ c1, cmpI ka kb = c1 := ⟨_, rfl⟩
  obtain ⟨c2, hc2⟩ : ∃ c2, cmpI (a : Int) (b : Int) = c2 := ⟨_, rfl⟩
  rw [hc1, hc2] at hr
  have HC1 := Lib.hid hc1
  have HC2 := Lib.hid hc2
  have HR := Lib.hid hr
  have A0 := Lib.hid a0
  have A1 := Lib.hid a1
  have B0 := Lib.hid b0
  have B1 := Lib.hid b1
  have HP := Lib.hid hp
  have HD := Lib.hid hd
  have hai : (a : Int) < (l.length : Int) := by omega
  have hbi : (b : Int) < (l.length : Int) := by omega
  have DS0 : Hid (GG.GroS W (fun _ => false) () W.drew) := Lib.hid ⟨Gro.drew _⟩
  clear hp hd hl hs hr hc1 hc2 a0 a1 b0 b1
  go_enter Tryz.func48, Tryz.ntmps48
  go_wp2_with fail
  refine' GG.wp_growL _ (GG.GroS W) [[], [], [0, 1], [0, 1, 2], [], [0, 1, 2, 3, 4], [], [], [6, 7], [6, 7, 8], [], [0, 1, 2, 3, 4, 5, 6, 7, 8, 9, 10], [0, 1, 2, 3, 4, 5, 6, 7, 8, 9, 10, 11], [], [], [0, 1, 2, 3, 4, 5, 6, 7, 8, 9, 10, 11, 12, 13, 14], [0, 1, 2, 3, 4, 5, 6, 7, 8, 9, 10, 11, 12, 13, 14, 15], [0, 1, 2, 3, 4, 5, 6, 7, 8, 9, 10, 11, 12, 13, 14, 15, 16], [0, 1, 2, 3, 4, 5, 6, 7, 8, 9, 10, 11, 12, 13, 14, 15, 16, 17]] (GG.Fact.lit (Rl := GG.RlL) _ :: GG.Fact.lit (Rl := GG.RlL) _ :: GG.Fact.lit (Rl := GG.RlL) _ :: GG.Fact.lit (Rl := GG.RlL) _ :: GG.Fact.lit (Rl := GG.RlL) _ :: GG.Fact.lit (Rl := GG.RlL) _ :: GG.Fact.lit (Rl := GG.RlL) _ :: GG.Fact.lit (Rl := GG.RlL) _ :: GG.Fact.lit (Rl := GG.RlL) _ :: GG.Fact.lit (Rl := GG.RlL) _ :: GG.Fact.lit (Rl := GG.RlL) _ :: GG.Fact.lit (Rl := GG.RlL) _ :: GG.Fact.lit (Rl := GG.RlL) _ :: GG.Fact.lit (Rl := GG.RlL) _ :: GG.Fact.lit (Rl := GG.RlL) _ :: GG.Fact.lit (Rl := GG.RlL) _ :: GG.Fact.prop (Rl := GG.RlL) _ _ :: GG.Fact.lit (Rl := GG.RlL) _ :: GG.Fact.lit (Rl := GG.RlL) _ :: []) (by kernel_rfl) rfl (by kernel_rfl) (()) (DS0.out) ?seqst
  case' seqst => skip
  (refine' GG.grow_lit (GG.GroS.still) rfl ?wtst0 ?runst0 ?putst0 ?nextst0; (case wtst0 => rfl); (case runst0 => (intro w' hS; (obtain ⟨dn, s, hS⟩ := hS); (have p0 := (HP.out.keep hS.g.below).cell 0 rfl); (have pl := (HP.out.keep hS.g.below).lt); (have d0 := (HD.out.keep hS.g.below).cell 0 rfl); (have dl := (HD.out.keep hS.g.below).lt); (have a0 := keep hS.g.below A0.out); (have a1 := keep hS.g.below A1.out); (have b0 := keep hS.g.below B0.out); (have b1 := keep hS.g.below B1.out); (have tl := World.block_lt_of_cell? _ _ a0); (simp only [List.getElem_cons_zero, List.getElem_toArray] at p0 d0); clear hS; go_simp; first | done | exact rfl)); (case putst0 => (first | (simp only [Act.put, List.setIfInBounds_toArray, List.set_cons_zero, List.set_cons_succ]; first | done | exact rfl) | rfl)); (case' nextst0 => skip))
  (refine' GG.grow_lit (GG.GroS.still) rfl ?wtst1 ?runst1 ?putst1 ?nextst1; (case wtst1 => rfl); (case runst1 => (intro w' hS; (obtain ⟨dn, s, hS⟩ := hS); (have p0 := (HP.out.keep hS.g.below).cell 0 rfl); (have pl := (HP.out.keep hS.g.below).lt); (have d0 := (HD.out.keep hS.g.below).cell 0 rfl); (have dl := (HD.out.keep hS.g.below).lt); (have a0 := keep hS.g.below A0.out); (have a1 := keep hS.g.below A1.out); (have b0 := keep hS.g.below B0.out); (have b1 := keep hS.g.below B1.out); (have tl := World.block_lt_of_cell? _ _ a0); (simp only [List.getElem_cons_zero, List.getElem_toArray] at p0 d0); clear hS; go_simp; first | done | exact rfl)); (case putst1 => (first | (simp only [Act.put, List.setIfInBounds_toArray, List.set_cons_zero, List.set_cons_succ]; first | done | exact rfl) | rfl)); (case' nextst1 => skip))
  (refine' GG.grow_lit (GG.GroS.still) rfl ?wtst2 ?runst2 ?putst2 ?nextst2; (case wtst2 => rfl); (case runst2 => (intro w' hS; (obtain ⟨dn, s, hS⟩ := hS); (have p0 := (HP.out.keep hS.g.below).cell 0 rfl); (have pl := (HP.out.keep hS.g.below).lt); (have d0 := (HD.out.keep hS.g.below).cell 0 rfl); (have dl := (HD.out.keep hS.g.below).lt); (have a0 := keep hS.g.below A0.out); (have a1 := keep hS.g.below A1.out); (have b0 := keep hS.g.below B0.out); (have b1 := keep hS.g.below B1.out); (have tl := World.block_lt_of_cell? _ _ a0); (simp only [List.getElem_cons_zero, List.getElem_toArray] at p0 d0); clear hS; go_simp; first | done | exact rfl)); (case putst2 => (first | (simp only [Act.put, List.setIfInBounds_toArray, List.set_cons_zero, List.set_cons_succ]; first | done | exact rfl) | rfl)); (case' nextst2 => skip))
  (refine' GG.grow_lit (GG.GroS.still) rfl ?wtst3 ?runst3 ?putst3 ?nextst3; (case wtst3 => rfl); (case runst3 => (intro w' hS; (obtain ⟨dn, s, hS⟩ := hS); (have p0 := (HP.out.keep hS.g.below).cell 0 rfl); (have pl := (HP.out.keep hS.g.below).lt); (have d0 := (HD.out.keep hS.g.below).cell 0 rfl); (have dl := (HD.out.keep hS.g.below).lt); (have a0 := keep hS.g.below A0.out); (have a1 := keep hS.g.below A1.out); (have b0 := keep hS.g.below B0.out); (have b1 := keep hS.g.below B1.out); (have tl := World.block_lt_of_cell? _ _ a0); (simp only [List.getElem_cons_zero, List.getElem_toArray] at p0 d0); clear hS; go_simp; first | done | exact rfl)); (case putst3 => (first | (simp only [Act.put, List.setIfInBounds_toArray, List.set_cons_zero, List.set_cons_succ]; first | done | exact rfl) | rfl)); (case' nextst3 => skip))
  (refine' GG.grow_lit (GG.GroS.still) rfl ?wtst4 ?runst4 ?putst4 ?nextst4; (case wtst4 => rfl); (case runst4 => (intro w' hS; (obtain ⟨dn, s, hS⟩ := hS); (have p0 := (HP.out.keep hS.g.below).cell 0 rfl); (have pl := (HP.out.keep hS.g.below).lt); (have d0 := (HD.out.keep hS.g.below).cell 0 rfl); (have dl := (HD.out.keep hS.g.below).lt); (have a0 := keep hS.g.below A0.out); (have a1 := keep hS.g.below A1.out); (have b0 := keep hS.g.below B0.out); (have b1 := keep hS.g.below B1.out); (have tl := World.block_lt_of_cell? _ _ a0); (simp only [List.getElem_cons_zero, List.getElem_toArray] at p0 d0); clear hS; go_simp; first | done | exact rfl)); (case putst4 => (first | (simp only [Act.put, List.setIfInBounds_toArray, List.set_cons_zero, List.set_cons_succ]; first | done | exact rfl) | rfl)); (case' nextst4 => skip))
  (refine' GG.grow_lit_call (u := .int .i64 ka) rfl Tryz.func49 (by kernel_rfl) rfl rfl ?wtst5 ?runst5 ?putst5 ?nextst5; (case wtst5 => rfl); (case runst5 => (intro dn s w' hS hd H; exact (key_is xa ya d w' SA.out HKA.out).mono (fun e w2 h => ⟨(), h.1, ⟨hS.g.trans h.2⟩, h.2.below, h.2.below.size⟩))); (case putst5 => (first | (simp only [Act.put, List.setIfInBounds_toArray, List.set_cons_zero, List.set_cons_succ]; first | done | exact rfl) | rfl)); (case' nextst5 => skip))
  (refine' GG.grow_lit (GG.GroS.still) rfl ?wtst6 ?runst6 ?putst6 ?nextst6; (case wtst6 => rfl); (case runst6 => (intro w' hS; (obtain ⟨dn, s, hS⟩ := hS); (have p0 := (HP.out.keep hS.g.below).cell 0 rfl); (have pl := (HP.out.keep hS.g.below).lt); (have d0 := (HD.out.keep hS.g.below).cell 0 rfl); (have dl := (HD.out.keep hS.g.below).lt); (have a0 := keep hS.g.below A0.out); (have a1 := keep hS.g.below A1.out); (have b0 := keep hS.g.below B0.out); (have b1 := keep hS.g.below B1.out); (have tl := World.block_lt_of_cell? _ _ a0); (simp only [List.getElem_cons_zero, List.getElem_toArray] at p0 d0); clear hS; go_simp; first | done | exact rfl)); (case putst6 => (first | (simp only [Act.put, List.setIfInBounds_toArray, List.set_cons_zero, List.set_cons_succ]; first | done | exact rfl) | rfl)); (case' nextst6 => skip))
  (refine' GG.grow_lit (GG.GroS.still) rfl ?wtst7 ?runst7 ?putst7 ?nextst7; (case wtst7 => rfl); (case runst7 => (intro w' hS; (obtain ⟨dn, s, hS⟩ := hS); (have p0 := (HP.out.keep hS.g.below).cell 0 rfl); (have pl := (HP.out.keep hS.g.below).lt); (have d0 := (HD.out.keep hS.g.below).cell 0 rfl); (have dl := (HD.out.keep hS.g.below).lt); (have a0 := keep hS.g.below A0.out); (have a1 := keep hS.g.below A1.out); (have b0 := keep hS.g.below B0.out); (have b1 := keep hS.g.below B1.out); (have tl := World.block_lt_of_cell? _ _ a0); (simp only [List.getElem_cons_zero, List.getElem_toArray] at p0 d0); clear hS; go_simp; first | done | exact rfl)); (case putst7 => (first | (simp only [Act.put, List.setIfInBounds_toArray, List.set_cons_zero, List.set_cons_succ]; first | done | exact rfl) | rfl)); (case' nextst7 => skip))
  (refine' GG.grow_lit (GG.GroS.still) rfl ?wtst8 ?runst8 ?putst8 ?nextst8; (case wtst8 => rfl); (case runst8 => (intro w' hS; (obtain ⟨dn, s, hS⟩ := hS); (have p0 := (HP.out.keep hS.g.below).cell 0 rfl); (have pl := (HP.out.keep hS.g.below).lt); (have d0 := (HD.out.keep hS.g.below).cell 0 rfl); (have dl := (HD.out.keep hS.g.below).lt); (have a0 := keep hS.g.below A0.out); (have a1 := keep hS.g.below A1.out); (have b0 := keep hS.g.below B0.out); (have b1 := keep hS.g.below B1.out); (have tl := World.block_lt_of_cell? _ _ a0); (simp only [List.getElem_cons_zero, List.getElem_toArray] at p0 d0); clear hS; go_simp; first | done | exact rfl)); (case putst8 => (first | (simp only [Act.put, List.setIfInBounds_toArray, List.set_cons_zero, List.set_cons_succ]; first | done | exact rfl) | rfl)); (case' nextst8 => skip))
  (refine' GG.grow_lit (GG.GroS.still) rfl ?wtst9 ?runst9 ?putst9 ?nextst9; (case wtst9 => rfl); (case runst9 => (intro w' hS; (obtain ⟨dn, s, hS⟩ := hS); (have p0 := (HP.out.keep hS.g.below).cell 0 rfl); (have pl := (HP.out.keep hS.g.below).lt); (have d0 := (HD.out.keep hS.g.below).cell 0 rfl); (have dl := (HD.out.keep hS.g.below).lt); (have a0 := keep hS.g.below A0.out); (have a1 := keep hS.g.below A1.out); (have b0 := keep hS.g.below B0.out); (have b1 := keep hS.g.below B1.out); (have tl := World.block_lt_of_cell? _ _ a0); (simp only [List.getElem_cons_zero, List.getElem_toArray] at p0 d0); clear hS; go_simp; first | done | exact rfl)); (case putst9 => (first | (simp only [Act.put, List.setIfInBounds_toArray, List.set_cons_zero, List.set_cons_succ]; first | done | exact rfl) | rfl)); (case' nextst9 => skip))
  (refine' GG.grow_lit (GG.GroS.still) rfl ?wtst10 ?runst10 ?putst10 ?nextst10; (case wtst10 => rfl); (case runst10 => (intro w' hS; (obtain ⟨dn, s, hS⟩ := hS); (have p0 := (HP.out.keep hS.g.below).cell 0 rfl); (have pl := (HP.out.keep hS.g.below).lt); (have d0 := (HD.out.keep hS.g.below).cell 0 rfl); (have dl := (HD.out.keep hS.g.below).lt); (have a0 := keep hS.g.below A0.out); (have a1 := keep hS.g.below A1.out); (have b0 := keep hS.g.below B0.out); (have b1 := keep hS.g.below B1.out); (have tl := World.block_lt_of_cell? _ _ a0); (simp only [List.getElem_cons_zero, List.getElem_toArray] at p0 d0); clear hS; go_simp; first | done | exact rfl)); (case putst10 => (first | (simp only [Act.put, List.setIfInBounds_toArray, List.set_cons_zero, List.set_cons_succ]; first | done | exact rfl) | rfl)); (case' nextst10 => skip))
  (refine' GG.grow_lit_call (u := .int .i64 kb) rfl Tryz.func49 (by kernel_rfl) rfl rfl ?wtst11 ?runst11 ?putst11 ?nextst11; (case wtst11 => rfl); (case runst11 => (intro dn s w' hS hd H; exact (key_is xb yb d w' SB.out HKB.out).mono (fun e w2 h => ⟨(), h.1, ⟨hS.g.trans h.2⟩, h.2.below, h.2.below.size⟩))); (case putst11 => (first | (simp only [Act.put, List.setIfInBounds_toArray, List.set_cons_zero, List.set_cons_succ]; first | done | exact rfl) | rfl)); (case' nextst11 => skip))
  (refine' GG.grow_lit_call (u := .int .i64 c1) rfl Tryz.func39 (by kernel_rfl) rfl rfl ?wtst12 ?runst12 ?putst12 ?nextst12; (case wtst12 => rfl); (case runst12 => (intro dn s w' hS hd H; exact (compare_is ka kb w' HC1.out).mono (fun e w2 h => ⟨(), h.1, ⟨h.2 ▸ hS.g⟩, h.2 ▸ Below.refl _ _, h.2 ▸ Nat.le_refl _⟩))); (case putst12 => (first | (simp only [Act.put, List.setIfInBounds_toArray, List.set_cons_zero, List.set_cons_succ]; first | done | exact rfl) | rfl)); (case' nextst12 => skip))
  (refine' GG.grow_lit (GG.GroS.still) rfl ?wtst13 ?runst13 ?putst13 ?nextst13; (case wtst13 => rfl); (case runst13 => (intro w' hS; (obtain ⟨dn, s, hS⟩ := hS); (have p0 := (HP.out.keep hS.g.below).cell 0 rfl); (have pl := (HP.out.keep hS.g.below).lt); (have d0 := (HD.out.keep hS.g.below).cell 0 rfl); (have dl := (HD.out.keep hS.g.below).lt); (have a0 := keep hS.g.below A0.out); (have a1 := keep hS.g.below A1.out); (have b0 := keep hS.g.below B0.out); (have b1 := keep hS.g.below B1.out); (have tl := World.block_lt_of_cell? _ _ a0); (simp only [List.getElem_cons_zero, List.getElem_toArray] at p0 d0); clear hS; go_simp; first | done | exact rfl)); (case putst13 => (first | (simp only [Act.put, List.setIfInBounds_toArray, List.set_cons_zero, List.set_cons_succ]; first | done | exact rfl) | rfl)); (case' nextst13 => skip))
  (refine' GG.grow_lit (GG.GroS.still) rfl ?wtst14 ?runst14 ?putst14 ?nextst14; (case wtst14 => rfl); (case runst14 => (intro w' hS; (obtain ⟨dn, s, hS⟩ := hS); (have p0 := (HP.out.keep hS.g.below).cell 0 rfl); (have pl := (HP.out.keep hS.g.below).lt); (have d0 := (HD.out.keep hS.g.below).cell 0 rfl); (have dl := (HD.out.keep hS.g.below).lt); (have a0 := keep hS.g.below A0.out); (have a1 := keep hS.g.below A1.out); (have b0 := keep hS.g.below B0.out); (have b1 := keep hS.g.below B1.out); (have tl := World.block_lt_of_cell? _ _ a0); (simp only [List.getElem_cons_zero, List.getElem_toArray] at p0 d0); clear hS; go_simp; first | done | exact rfl)); (case putst14 => (first | (simp only [Act.put, List.setIfInBounds_toArray, List.set_cons_zero, List.set_cons_succ]; first | done | exact rfl) | rfl)); (case' nextst14 => skip))
  (refine' GG.grow_lit_call (u := .int .i64 c2) rfl Tryz.func39 (by kernel_rfl) rfl rfl ?wtst15 ?runst15 ?putst15 ?nextst15; (case wtst15 => rfl); (case runst15 => (intro dn s w' hS hd H; exact (compare_is (a : Int) (b : Int) w' HC2.out).mono (fun e w2 h => ⟨(), h.1, ⟨h.2 ▸ hS.g⟩, h.2 ▸ Below.refl _ _, h.2 ▸ Nat.le_refl _⟩))); (case putst15 => (first | (simp only [Act.put, List.setIfInBounds_toArray, List.set_cons_zero, List.set_cons_succ]; first | done | exact rfl) | rfl)); (case' nextst15 => skip))
  (refine' GG.grow_any_op (p := Pair2 c1 c2) (hp := Pair2.st) rfl ?wtst16 ?runst16 ?putst16 ?nextst16; (case wtst16 => rfl); (case runst16 => (intro dn s w' hS hd H; (have hb := below_alloc1 (w := w') (.cells #[.int .i64 c1, .int .i64 c2] 3)); refine ⟨.slice (some ⟨w'.heap.size, 0, none⟩) 2 2, (), w'.alloc (.cells #[.int .i64 c1, .int .i64 c2] 3), ?_, ⟨_, rfl, Blk.new _ _ _ _ rfl⟩, ⟨hS.g.trans (Gro.new _ _)⟩, hb, hb.size⟩; (clear hS H; go_simp))); (case putst16 => (intro v; (simp only [Act.put, List.setIfInBounds_toArray, List.set_cons_zero, List.set_cons_succ]; first | done | exact rfl))); (case' nextst16 => intro v16))
  (refine' GG.grow_lit_call (u := .int .i64 r) rfl Tryz.func38 (by kernel_rfl) rfl rfl ?wtst17 ?runst17 ?putst17 ?nextst17; (case wtst17 => rfl); (case runst17 => (intro dn s w' hS hd H; (obtain ⟨g, e16, kg⟩ := (show Pair2 c1 c2 v16 () w' from H 16 (by decide))); subst e16; exact (or_is c1 c2 g w' kg HR.out).mono (fun e w2 h => ⟨(), h.1, ⟨h.2 ▸ hS.g⟩, h.2 ▸ Below.refl _ _, h.2 ▸ Nat.le_refl _⟩))); (case putst17 => (first | (simp only [Act.put, List.setIfInBounds_toArray, List.set_cons_zero, List.set_cons_succ]; first | done | exact rfl) | rfl)); (case' nextst17 => skip))
  (refine' GG.grow_lit (GG.GroS.still) rfl ?wtst18 ?runst18 ?putst18 ?nextst18; (case wtst18 => rfl); (case runst18 => (intro w' hS; (obtain ⟨dn, s, hS⟩ := hS); (have p0 := (HP.out.keep hS.g.below).cell 0 rfl); (have pl := (HP.out.keep hS.g.below).lt); (have d0 := (HD.out.keep hS.g.below).cell 0 rfl); (have dl := (HD.out.keep hS.g.below).lt); (have a0 := keep hS.g.below A0.out); (have a1 := keep hS.g.below A1.out); (have b0 := keep hS.g.below B0.out); (have b1 := keep hS.g.below B1.out); (have tl := World.block_lt_of_cell? _ _ a0); (simp only [List.getElem_cons_zero, List.getElem_toArray] at p0 d0); clear hS; go_simp; first | done | exact rfl)); (case putst18 => (first | (simp only [Act.put, List.setIfInBounds_toArray, List.set_cons_zero, List.set_cons_succ]; first | done | exact rfl) | rfl)); (case' nextst18 => skip))
  intro dn s w8 hS _ _
  have HG := Lib.hid hS.g
  clear hS DS0
  go_wp2_with fail
  go_ret
  exact ⟨rfl, HG.out⟩
end Go.Proofs.YthfljimgpcignaaGreatDoor
