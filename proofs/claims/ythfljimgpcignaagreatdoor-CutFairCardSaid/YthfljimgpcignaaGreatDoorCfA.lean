/-
  The document's row of points and its ends: Key, share, Ends, Order.
-/
import Derived.Test.YthfljimgpcignaaGreatDoorCfM
import Derived.Test.YthfljimgpcignaaGreatDoorG25
import Derived.Test.YthfljimgpcignaaGreatDoorG21
import Derived.Laws.OwnMore
import Derived.RegionTactic
import Derived.BigQuiet
import Derived.IntWalk
namespace Go.Proofs.YthfljimgpcignaaGreatDoor
open Go.RowKit Go.Sort

set_option maxHeartbeats 2000000 in
theorem rkey_is (x y d : Int) (w : World) (hs : SmallP (x, y)) {r : Int} (hr : keyL (x, y) d = r) : Calls Tryz.prog 23 #[.agg #[.int .i64 x, .int .i64 y], .int .i64 d] w fun e w' => e = .returned (.int .i64 r) ∧ Below w.heap.size w w' := by
  obtain ⟨⟨s0, s1⟩, s2, s3⟩ := hs
  simp only at s0 s1 s2 s3
  obtain ⟨W1, hW1⟩ := named (w.alloc (.cells #[.int .i64 x, .int .i64 y] 44))
  obtain ⟨g, hg⟩ : ∃ g, w.heap.size = g := ⟨_, rfl⟩
  have k1 : Blk W1 g #[.int .i64 x, .int .i64 y] 44 := by rw [hW1]; exact Blk.new _ _ _ _ hg
  have HG : Hid (Below w.heap.size w W1) := Lib.hid (by rw [hW1]; exact below_alloc1 _)
  have c0 := k1.cell 0 rfl
  have c1 := k1.cell 1 rfl
  have f0 := k1.free 0
  have cl := k1.lt
  have e1 := hW1.symm
  have ws : IntKind.i64.wrap (x + y) = x + y := IntWalk.i64_in _ (by omega)
  have wt : IntKind.i64.wrap (x - y) = x - y := IntWalk.i64_in _ (by omega)
  clear hW1 k1
  unfold keyL at hr
  by_cases h0 : d = 0
  · subst h0
    obtain rfl : x = r := by rw [← hr]; simp
    clear hr ws wt
    go_enter Tryz.func23, Tryz.ntmps23
    go_wp2_with fail
    go_ret
    exact ⟨rfl, HG.out⟩
  by_cases h1 : d = 1
  · subst h1
    obtain rfl : y = r := by rw [← hr]; simp
    clear hr h0 ws wt
    go_enter Tryz.func23, Tryz.ntmps23
    go_wp2_with fail
    go_ret
    exact ⟨rfl, HG.out⟩
  by_cases h2 : d = 2
  · subst h2
    obtain rfl : x + y = r := by rw [← hr]; simp
    clear hr h0 h1 wt
    go_enter Tryz.func23, Tryz.ntmps23
    go_wp2_with fail
    go_ret
    exact ⟨rfl, HG.out⟩
  by_cases h3 : d = 3
  · subst h3
    obtain rfl : x - y = r := by rw [← hr]; simp
    clear hr h0 h1 h2 ws
    go_enter Tryz.func23, Tryz.ntmps23
    go_wp2_with fail
    go_ret
    exact ⟨rfl, HG.out⟩
  obtain rfl : 0 = r := by rw [← hr, if_neg h0, if_neg h1, if_neg h3, if_neg h2]
  have d0 : (d == 0) = false := by simpa using h0
  have d1 : (d == 1) = false := by simpa using h1
  have d2 : (d == 2) = false := by simpa using h2
  have d3 : (d == 3) = false := by simpa using h3
  clear hr h0 h1 h2 h3 ws wt
  go_enter Tryz.func23, Tryz.ntmps23
  go_wp2_with fail
  go_ret
  exact ⟨rfl, HG.out⟩
theorem rshare_is (n : Nat) (w : World) (hn : n ≤ 1000000) {k : Nat} (hk : endN n = k) : Calls Tryz.prog 22 #[.int .i64 (n : Int)] w fun e w' => e = .returned (.int .i64 (k : Int)) ∧ w = w' := by
  unfold endN at hk
  by_cases h2 : n < 2
  · obtain rfl : k = 0 := by rw [← hk, if_pos h2]
    have h2i : (n : Int) < 2 := by omega
    clear hk h2
    go_enter Tryz.func22, Tryz.ntmps22
    go_wp2_with fail
    go_ret
    exact ⟨rfl, rfl⟩
  · rw [if_neg h2] at hk
    have h2i : ¬ (n : Int) < 2 := by omega
    have h3 : (n : Int) + 3 = ((n + 3 : Nat) : Int) := by omega
    have w1 : IntKind.i64.wrap ((n : Int) + 3) = ((n + 3 : Nat) : Int) := by rw [h3]; exact IntWalk.i64_in _ (by omega)
    obtain ⟨Z, hZ⟩ : ∃ Z : Int, ((n + 3 : Nat) : Int) = Z := ⟨_, rfl⟩
    rw [hZ] at w1
    have e1 : Z.tdiv 4 = (k : Int) := by rw [← hZ, ← hk]; rfl
    have e2 : IntKind.i64.wrap (Z.tdiv 4) = (k : Int) := by rw [e1]; exact IntWalk.i64_in _ (by omega)
    have e3 : Z / 4 = (k : Int) := by omega
    have e4 : IntKind.i64.wrap (k : Int) = (k : Int) := IntWalk.i64_in _ (by omega)
    clear hZ h3 hk h2
    go_enter Tryz.func22, Tryz.ntmps22
    go_wp2_with fail
    go_ret
    exact ⟨rfl, rfl⟩
/-! ### rows of numbers -/
theorem copyOI (W : World) (v : Value) (l : List Int) (hv : I64s W v l) (hs : l.length ≤ 100000) (g base : Nat) (hg : Blk W g #[] 3) (hb : base ≤ g) :
    ∃ q c w', (Builtin.append_ #[39, 39] 39 #[.slice (some ⟨g, 0, none⟩) 0 0, v]).run Tryz.prog W = .ok (.slice q l.length c) w' ∧ w'.ownsRow base 3 1 (.slice q l.length c) l.length (l.map (Value.int .i64)) ∧ Below W.heap.size W w' := by
  obtain ⟨i0, hi, hz0, hz1, hz2⟩ := info_parts infoInt
  have ht : Tryz.prog.underlying 39 = some (.slice 3) := Tryz.underlying39
  have hnil : W.ownsRow base 3 1 (.slice (some ⟨g, 0, none⟩) 0 0) 0 (([] : List Int).map (Value.int .i64)) := ⟨rfl, Or.inr ⟨g, 0, #[], rfl, hb, hg, Nat.le_refl _, by simp [maxLen], rfl, rfl⟩⟩
  have hgl := hg.lt
  rcases hv with ⟨rfl, p, c, rfl, hpc⟩ | ⟨hl, b, o, c, -, -, rfl, hc⟩
  · refine ⟨_, _, W, ?_, hnil, Below.refl _ _⟩
    cases p with
    | none =>
      simp [Builtin.append_, run_underlying ht, sizeOf, typeInfo, hi, Builtin.lenOf, Builtin.firstCells, storeCells]
    | some ad =>
      have := run_append_room_cells (P := Tryz.prog) (w := W) 39 39 3 i0 ht hi g 0 0 0 ad 0 c [] (by simp) (by intro j u h; simp at h) (by intro u h; cases h) (by omega) (by intro j h; simp at h) (by intro j h; simp at h)
      simpa [World.setCells] using this
  · by_cases h0 : l.length = 0
    · obtain rfl : l = [] := List.length_eq_zero_iff.1 h0
      refine ⟨_, _, W, ?_, hnil, Below.refl _ _⟩
      have := run_append_room_cells (P := Tryz.prog) (w := W) 39 39 3 i0 ht hi g 0 0 0 ⟨b, o, none⟩ 0 c [] (by simp) (by intro j u h; simp at h) (by intro u h; cases h) (by omega) (by intro j h; simp at h) (by intro j h; simp at h)
      simpa [World.setCells] using this
    · obtain ⟨v', w', hr, h1, h2⟩ := run_append_arg_grows (P := Tryz.prog) (w := W) 39 39 3 i0 (.int .i64 0) 1 8 ht hi hz0 hz1 hz2 rfl (by decide) ⟨g, 0, none⟩ 0 0 [] (by simp) (by intro j u h; simp at h) ⟨b, o, none⟩ l.length c (l.map (Value.int .i64)) (by simp)
        (fun j u hu => by
          have e : (⟨b, o, none⟩ : Addr).add j = ⟨b, o + j, none⟩ := by unfold Addr.add; split <;> simp_all
          rw [e]
          obtain ⟨hj, hu⟩ := List.getElem?_eq_some_iff.1 hu
          have hj' : j < l.length := by simpa using hj
          rw [hc j hj', ← hu, List.getElem_map]) (by omega) (by simp [maxLen]; omega) (by omega)
      rw [List.nil_append, Nat.zero_add] at h1
      obtain ⟨q, c0, rfl⟩ := own_shape h1
      exact ⟨q, c0, w', hr, owns_base h1 (by omega), (Below.refl _ _).grown h2 (Nat.le_refl _) (by intro k hk; cases hk)⟩
theorem appOI {W : World} {base : Nat} {v u : Value} {l r : List Int} (h : W.ownsRow base 3 1 v l.length (l.map (Value.int .i64))) (hu : I64s W u r) (hl : l.length + r.length ≤ 100000) (hb : base ≤ W.heap.size) :
    ∃ q c w', (Builtin.append_ #[39, 39] 39 #[v, u]).run Tryz.prog W = .ok (.slice q (l ++ r).length c) w' ∧ w'.ownsRow base 3 1 (.slice q (l ++ r).length c) (l ++ r).length ((l ++ r).map (Value.int .i64)) ∧ Below base W w' ∧ W.heap.size ≤ w'.heap.size := by
  obtain ⟨i0, hi, hz0, hz1, hz2⟩ := info_parts infoInt
  have key : ∀ (a : Addr) (c : Nat), (∀ j x, (r.map (Value.int .i64))[j]? = some x → W.cell? (a.add j) = some x) →
      ∃ q c' w', (Builtin.append_ #[39, 39] 39 #[v, .slice (some a) r.length c]).run Tryz.prog W = .ok (.slice q (l ++ r).length c') w' ∧ w'.ownsRow base 3 1 (.slice q (l ++ r).length c') (l ++ r).length ((l ++ r).map (Value.int .i64)) ∧ Below base W w' ∧ W.heap.size ≤ w'.heap.size := fun a c hn => by
    obtain ⟨v', w', hr, o1, o2, -, -⟩ := run_append_own_at (P := Tryz.prog) W base 39 39 3 i0 (.int .i64 0) 1 8 Tryz.underlying39 hi hz0 hz1 hz2 rfl (by decide) v l.length (l.map (Value.int .i64)) h a r.length c (r.map (Value.int .i64)) (by simp) hn (by intro x hx; obtain ⟨y, -, rfl⟩ := List.mem_map.1 hx; rfl) (by unfold maxLen; omega) (by omega) hb
    rw [← List.length_append, ← List.map_append] at o1
    obtain ⟨q, c', rfl⟩ := own_shape o1
    exact ⟨q, c', w', hr, o1, ⟨o2.os, o2.tape, o2.output, o2.size, fun k hk => o2.block k (by omega) (fun e => by have := own_ge h k e.symm; omega)⟩, o2.size⟩
  rcases hu with ⟨rfl, p, c, rfl, hpc⟩ | ⟨hl2, b, o, c, -, -, rfl, hc⟩
  · cases p with
    | none =>
      obtain rfl := hpc rfl
      obtain ⟨q, c', rfl⟩ := own_shape h
      rw [List.append_nil]
      exact ⟨q, c', W, run_append_owned_none W base 39 39 3 i0 1 Tryz.underlying39 hi _ _ _ h, h, Below.refl _ _, Nat.le_refl _⟩
    | some a => exact key a c (by intro j x hx; simp at hx)
  · refine key ⟨b, o, none⟩ c fun j x hx => ?_
    rw [add0s]
    obtain ⟨hj, hx⟩ := List.getElem?_eq_some_iff.1 hx
    have hj' : j < r.length := by simpa using hj
    rw [hc j hj', ← hx, List.getElem_map]
/-! ### stages of a region: how many of three appends, one upon the other, have been done -/
def GG.Rl3 (s : Nat) (w : World) (s' : Nat) (w' : World) : Prop := s ≤ s' ∧ (s = s' ∨ s' ≤ 1 → Below w.heap.size w w')
structure GG.Ap3 (j0 j1 j2 : Nat) (W : World) (dn : Nat → Bool) (s : Nat) (w : World) : Prop where
  h0 : dn j0 = false → s = 0
  h1 : dn j1 = false → s ≤ 1
  h2 : dn j2 = false → s ≤ 2
  h3 : s ≤ 3
  b : Below W.heap.size W w
section
variable {j0 j1 j2 : Nat} {W : World} {dn : Nat → Bool} {s : Nat} {w w' : World}
theorem GG.done_no {i j : Nat} (h : j ≠ i) (e : GG.doneG dn i j = false) : dn j = false := by
  have : (if j = i then true else dn j) = false := e
  rwa [if_neg h] at this
theorem GG.done_at {i : Nat} : GG.doneG dn i i = true := by
  show (if i = i then true else dn i) = true
  rw [if_pos rfl]
theorem GG.Ap3.step (h : GG.Ap3 j0 j1 j2 W dn s w) {i : Nat} (a : j0 ≠ i) (b : j1 ≠ i) (c : j2 ≠ i) : GG.Ap3 j0 j1 j2 W (GG.doneG dn i) s w :=
  ⟨fun e => h.h0 (GG.done_no a e), fun e => h.h1 (GG.done_no b e), fun e => h.h2 (GG.done_no c e), h.h3, h.b⟩
theorem GG.Ap3.still {i : Nat} (a : j0 ≠ i) (b : j1 ≠ i) (c : j2 ≠ i) : GG.Still (GG.Ap3 j0 j1 j2 W) GG.Rl3 i := ⟨fun _ _ _ h => h.step a b c, fun _ _ => ⟨Nat.le_refl _, fun _ => Below.refl _ _⟩⟩
theorem GG.Ap3.old (h : GG.Ap3 j0 j1 j2 W dn s w) (hb : Below w.heap.size w w') : GG.Ap3 j0 j1 j2 W dn s w' := ⟨h.h0, h.h1, h.h2, h.h3, bOn6 h.b hb⟩
theorem GG.Ap3.one (h : GG.Ap3 j0 j1 j2 W dn s w) (hb : Below w.heap.size w w') : GG.Ap3 j0 j1 j2 W (GG.doneG dn j0) 1 w' :=
  ⟨fun e => (by rw [GG.done_at] at e; cases e), fun _ => by omega, fun _ => by omega, by omega, bOn6 h.b hb⟩
theorem GG.Ap3.two (h : GG.Ap3 j0 j1 j2 W dn s w) (h1 : s = 1) (n : j0 ≠ j1) (hb : Below W.heap.size W w') : GG.Ap3 j0 j1 j2 W (GG.doneG dn j1) 2 w' :=
  ⟨fun e => by have := h.h0 (GG.done_no n e); omega, fun e => (by rw [GG.done_at] at e; cases e), fun _ => by omega, by omega, hb⟩
theorem GG.Ap3.three (h : GG.Ap3 j0 j1 j2 W dn s w) (h1 : s = 2) (n : j0 ≠ j2) (m : j1 ≠ j2) (hb : Below W.heap.size W w') : GG.Ap3 j0 j1 j2 W (GG.doneG dn j2) 3 w' :=
  ⟨fun e => by have := h.h0 (GG.done_no n e); omega, fun e => by have := h.h1 (GG.done_no m e); omega, fun e => (by rw [GG.done_at] at e; cases e), by omega, hb⟩
end
def AtSt (m : Nat) (B : Value → World → Prop) (v : Value) (s : Nat) (w : World) : Prop := m ≤ s ∧ (s = m → B v w)
theorem AtSt.st {m : Nat} {B : Value → World → Prop} (hB : ∀ v, Stab (B v)) (v : Value) (s : Nat) (w : World) (s' : Nat) (w' : World) (h : AtSt m B v s w) (hr : GG.Rl3 s w s' w') : AtSt m B v s' w' := by
  obtain ⟨h1, h2⟩ := h
  obtain ⟨r1, r2⟩ := hr
  exact ⟨by omega, fun e => hB v w w' (h2 (by omega)) (r2 (by omega))⟩
def AtMo (m : Nat) (B : Value → World → Prop) (v : Value) (s : Nat) (w : World) : Prop := s ≤ m → B v w
theorem AtMo.st {m : Nat} {B : Value → World → Prop} (hm : m ≤ 1) (hB : ∀ v, Stab (B v)) (v : Value) (s : Nat) (w : World) (s' : Nat) (w' : World) (h : AtMo m B v s w) (hr : GG.Rl3 s w s' w') : AtMo m B v s' w' := by
  intro e
  obtain ⟨r1, r2⟩ := hr
  exact hB v w w' (h (by omega)) (r2 (by omega))
def EmpI (W : World) (v : Value) (w : World) : Prop := ∃ g, v = .slice (some ⟨g, 0, none⟩) 0 0 ∧ Blk w g #[] 3 ∧ W.heap.size ≤ g
theorem EmpI.stab (W : World) (v : Value) : Stab (EmpI W v) := fun _ _ ⟨g, e, k, h⟩ hb => ⟨g, e, k.keep hb, h⟩
def OwnI (W : World) (l : List Int) (v : Value) (w : World) : Prop := ∃ q c, v = .slice q l.length c ∧ w.ownsRow W.heap.size 3 1 (.slice q l.length c) l.length (l.map (Value.int .i64))
theorem OwnI.stab (W : World) (l : List Int) (v : Value) : Stab (OwnI W l v) := fun _ _ ⟨q, c, e, h⟩ hb => ⟨q, c, e, own_below h hb⟩
def OneI (x : Int) (v : Value) (w : World) : Prop := ∃ g, v = .slice (some ⟨g, 0, none⟩) 1 1 ∧ Blk w g #[.int .i64 x] 3
theorem OneI.stab (x : Int) (v : Value) : Stab (OneI x v) := fun _ _ ⟨g, e, k⟩ hb => ⟨g, e, k.keep hb⟩
theorem zN_put (o : List Nat) (k i : Nat) : (zN o).take k ++ [(i : Int)] ++ (zN o).drop k = zN (o.take k ++ [i] ++ o.drop k) := by
  simp [zN, List.map_take, List.map_drop]
/-! ### Order -/
def ROrdPost (w : World) (l : List (Int × Int)) (d : Int) (e : Ending) (w' : World) : Prop := ∃ q c o, e = .returned (.slice q l.length c) ∧ OrdL l d o ∧ I64s w' (.slice q l.length c) (zN o) ∧ Below w.heap.size w w'
/-- The loops' heads. -/
def ROrdRel (w : World) (l : List (Int × Int)) (d : Int) (ov iv : Value) (wr : World) : Prop := ∃ (i : Nat) (o : List Nat) (q : Option Addr) (c : Nat), i ≤ l.length ∧ iv = .int .i64 i ∧ ov = .slice q i c ∧ PreO l d i o ∧ I64s wr (.slice q i c) (zN o) ∧ Below w.heap.size w wr
def RPutRel (w : World) (l : List (Int × Int)) (d : Int) (i : Nat) (o : List Nat) (kv : Value) (wr : World) : Prop := ∃ k : Nat, k ≤ i ∧ kv = .int .i64 k ∧ (∀ j (hj : j < o.length), j < k → kAt l d o[j] ≤ kAt l d i) ∧ Below w.heap.size w wr
set_option maxHeartbeats 8000000 in
set_option maxRecDepth 100000 in
theorem rorder_is {w : World} {pv : Value} {l : List (Int × Int)} {d : Int} (h : Prs w pv l) (hs : SmallL l) (hn : l.length ≤ 1000) :
    Calls Tryz.prog 11 #[pv, .int .i64 d] w (ROrdPost w l d) := by
  obtain ⟨pq, pc, rfl⟩ := h.shape
  have HP := Lib.hid h
  have HS := Lib.hid hs
  obtain ⟨N, hN⟩ : ∃ N, l.length = N := ⟨_, rfl⟩
  have HN := Lib.hid hN
  have HNB : Hid (N ≤ 1000) := Lib.hid (by omega)
  rw [hN] at HP ⊢
  clear h hs hn hN
  go_enter Tryz.func11, Tryz.ntmps11
  go_wp2_with fail
  go_loopw [5, 6, 7] (fun ov iv _ wr => ROrdRel w l d ov iv wr) (fun _ iv _ _ => N - (intOf iv).toNat)
  case atStart => exact ⟨0, [], none, 0, Nat.zero_le _, rfl, rfl, PreO.nil _ _, Or.inl ⟨rfl, none, 0, rfl, fun _ => rfl⟩, Below.refl _ _⟩
  case round =>
    obtain ⟨i, o, q, c, hi, rfl, rfl, hpo, hz, hb⟩ := hrel
    rw [HN.out] at hi
    obtain ⟨wl, rfl⟩ : ∃ x, x = wr := ⟨_, rfl⟩
    have HPO := Lib.hid hpo
    have HZ := Lib.hid hz
    have HB := Lib.hid hb
    have hni : (N : Int) ≤ 1000 := by have := HNB.out; omega
    clear hpo hz hb
    by_cases hlt : i < N
    case neg =>
      obtain rfl : i = N := by omega
      have HR : Hid (ROrdPost w l d (.returned (.slice q i c)) wl) := Lib.hid ⟨q, c, o, by rw [HN.out], by
        have := HPO.out
        rw [← HN.out] at this
        exact this.all, by rw [HN.out]; exact HZ.out, HB.out⟩
      go_wp2_with fail
      go_ret
      exact HR.out
    have hii : (i : Int) < (N : Int) := by omega
    have HI : Hid (i < N) := Lib.hid hlt
    have HOL := Lib.hid HPO.out.len
    go_wp2_with fail
    go_loopw [7] (fun kv wr => RPutRel wl l d i o kv wr) (fun kv _ => i - (intOf kv).toNat)
    case atStart => exact ⟨0, Nat.zero_le _, rfl, fun j hj h => by omega, Below.refl _ _⟩
    case round =>
      obtain ⟨k, hk, rfl, hle, hb⟩ := hrel
      have HLE := Lib.hid hle
      have HBK := Lib.hid hb
      have HBW := Lib.hid (bOn6 HB.out hb)
      have HZK := Lib.hid (HZ.out.below hb)
      have DS0 : Hid (GG.BelL wr (fun _ => false) () wr.drew) := Lib.hid ⟨(Below.refl _ _).drew⟩
      have hki : (k : Int) ≤ (i : Int) := by omega
      clear hle hb
      have hil : i < l.length := by rw [HN.out]; exact hlt
      obtain ⟨ib, io, hpe, pi0, pi1⟩ := (HP.out.below HBW.out).at hil
      obtain ⟨⟨xi, yi⟩, hxi⟩ : ∃ x, l[i] = x := ⟨_, rfl⟩
      rw [hxi] at pi0 pi1
      simp only at pi0 pi1
      have HSI : Hid (SmallP (xi, yi)) := Lib.hid (by have := HS.out.at hil; rwa [hxi] at this)
      have HKI : Hid (keyL (xi, yi) d = kAt l d i) := Lib.hid (by simp [kAt, hil, hxi])
      obtain ⟨KI, hKI⟩ : ∃ x, kAt l d i = x := ⟨_, rfl⟩
      rw [hKI] at HKI
      have HKN := Lib.hid hKI
      subst hpe
      have PI0 := Lib.hid pi0
      have PI1 := Lib.hid pi1
      clear hxi hKI pi0 pi1 hil
      by_cases hlk : k < i
      case neg =>
        have hkie : k = i := by omega
        have HPUT : Hid (PreO l d (i + 1) (o.take k ++ [i] ++ o.drop k)) := Lib.hid (HPO.out.put hk HLE.out (fun h => by omega))
        have HIX : Hid (¬ k < i ∧ ¬ (k : Int) < (i : Int)) := Lib.hid ⟨by omega, by omega⟩
        have dki : decide ((k : Int) < (i : Int)) = false := decide_eq_false (by omega)
        have hnki : ¬ (k : Int) < (i : Int) := by omega
        clear hlk
        go_wp2_with fail
        refine' GG.wp_growL _ (GG.BelL wr) [[], [], [1], [0, 1, 2], [0, 1, 2, 3], [0, 1, 2, 3, 4], [0, 1, 2, 3, 4], [0, 1, 2, 3, 4], [0, 1, 2, 3, 4, 6, 7], [0, 1, 2, 3, 4, 6, 7, 8], [0, 1, 2, 3, 4, 5, 6, 7, 8, 9], [0, 1, 2, 3, 4, 5, 6, 7, 8, 9, 10], [0, 1, 2, 3, 4], [0, 1, 2, 3, 4, 5, 6, 7, 8, 9, 10, 11, 12], [0, 1, 2, 3, 4], [0, 1, 2, 3, 4], [0, 1, 2, 3, 4, 14, 15], [0, 1, 2, 3, 4, 14, 15, 16], [0, 1, 2, 3, 4], [0, 1, 2, 3, 4, 5, 6, 7, 8, 9, 10, 11, 12, 13, 14, 15, 16, 17, 18], [0, 1, 2, 3, 4, 5, 6, 7, 8, 9, 10, 11, 12, 13, 14, 15, 16, 17, 18, 19], [0, 1, 2, 3, 4, 5, 6, 7, 8, 9, 10, 11, 12, 13, 14, 15, 16, 17, 18, 19, 20]] (GG.Fact.lit (Rl := GG.RlL) _ :: GG.Fact.lit (Rl := GG.RlL) _ :: GG.Fact.lit (Rl := GG.RlL) _ :: GG.Fact.lit (Rl := GG.RlL) _ :: GG.Fact.lit (Rl := GG.RlL) _ :: GG.Fact.lit (Rl := GG.RlL) _ :: GG.Fact.lit (Rl := GG.RlL) _ :: GG.Fact.lit (Rl := GG.RlL) _ :: GG.Fact.lit (Rl := GG.RlL) _ :: GG.Fact.lit (Rl := GG.RlL) _ :: GG.Fact.lit (Rl := GG.RlL) _ :: GG.Fact.lit (Rl := GG.RlL) _ :: GG.Fact.lit (Rl := GG.RlL) _ :: GG.Fact.lit (Rl := GG.RlL) _ :: GG.Fact.lit (Rl := GG.RlL) _ :: GG.Fact.lit (Rl := GG.RlL) _ :: GG.Fact.lit (Rl := GG.RlL) _ :: GG.Fact.lit (Rl := GG.RlL) _ :: GG.Fact.lit (Rl := GG.RlL) _ :: GG.Fact.lit (Rl := GG.RlL) _ :: GG.Fact.lit (Rl := GG.RlL) _ :: GG.Fact.lit (Rl := GG.RlL) _ :: []) (by kernel_rfl) rfl (by kernel_rfl) (()) (DS0.out) ?seqra
        case' seqra => skip
        (refine' GG.grow_lit (GG.BelL.still) rfl ?wtra0 ?runra0 ?putra0 ?nextra0; (case wtra0 => rfl); (case runra0 => (intro w' hS; (obtain ⟨dn, s, hS⟩ := hS); (obtain ⟨k1, k2⟩ := HIX.out); clear hS; go_simp; first | done | exact rfl)); (case putra0 => (first | (simp only [Act.put, List.setIfInBounds_toArray, List.set_cons_zero, List.set_cons_succ]; first | done | exact rfl) | rfl)); (case' nextra0 => skip))
        (refine' GG.grow_lit (GG.BelL.still) rfl ?wtra1 ?runra1 ?putra1 ?nextra1; (case wtra1 => rfl); (case runra1 => (intro w' hS; (obtain ⟨dn, s, hS⟩ := hS); (obtain ⟨k1, k2⟩ := HIX.out); clear hS; go_simp; first | done | exact rfl)); (case putra1 => (first | (simp only [Act.put, List.setIfInBounds_toArray, List.set_cons_zero, List.set_cons_succ]; first | done | exact rfl) | rfl)); (case' nextra1 => skip))
        (refine' GG.grow_lit (GG.BelL.still) rfl ?wtra2 ?runra2 ?putra2 ?nextra2; (case wtra2 => rfl); (case runra2 => (intro w' hS; (obtain ⟨dn, s, hS⟩ := hS); (obtain ⟨k1, k2⟩ := HIX.out); clear hS; go_simp; first | done | exact rfl)); (case putra2 => (first | (simp only [Act.put, List.setIfInBounds_toArray, List.set_cons_zero, List.set_cons_succ]; first | done | exact rfl) | rfl)); (case' nextra2 => skip))
        (refine' GG.grow_lit (GG.BelL.still) rfl ?wtra3 ?runra3 ?putra3 ?nextra3; (case wtra3 => rfl); (case runra3 => (intro w' hS; (obtain ⟨dn, s, hS⟩ := hS); (obtain ⟨k1, k2⟩ := HIX.out); clear hS; go_simp; first | done | exact rfl)); (case putra3 => (first | (simp only [Act.put, List.setIfInBounds_toArray, List.set_cons_zero, List.set_cons_succ]; first | done | exact rfl) | rfl)); (case' nextra3 => skip))
        (refine' GG.grow_lit (GG.BelL.still) rfl ?wtra4 ?runra4 ?putra4 ?nextra4; (case wtra4 => rfl); (case runra4 => (intro w' hS; (obtain ⟨dn, s, hS⟩ := hS); (obtain ⟨k1, k2⟩ := HIX.out); clear hS; go_simp; first | done | exact rfl)); (case putra4 => (first | (simp only [Act.put, List.setIfInBounds_toArray, List.set_cons_zero, List.set_cons_succ]; first | done | exact rfl) | rfl)); (case' nextra4 => skip))
        (refine' GG.grow_skip (GG.BelL.still) rfl ?wtra5 ?putra5 ?nextra5; (case wtra5 => rfl); (case putra5 => (first | (simp only [Act.put, List.setIfInBounds_toArray, List.set_cons_zero, List.set_cons_succ]; first | done | exact rfl) | rfl)); (case' nextra5 => skip))
        (refine' GG.grow_skip (GG.BelL.still) rfl ?wtra6 ?putra6 ?nextra6; (case wtra6 => rfl); (case putra6 => (first | (simp only [Act.put, List.setIfInBounds_toArray, List.set_cons_zero, List.set_cons_succ]; first | done | exact rfl) | rfl)); (case' nextra6 => skip))
        (refine' GG.grow_skip (GG.BelL.still) rfl ?wtra7 ?putra7 ?nextra7; (case wtra7 => rfl); (case putra7 => (first | (simp only [Act.put, List.setIfInBounds_toArray, List.set_cons_zero, List.set_cons_succ]; first | done | exact rfl) | rfl)); (case' nextra7 => skip))
        (refine' GG.grow_skip (GG.BelL.still) rfl ?wtra8 ?putra8 ?nextra8; (case wtra8 => rfl); (case putra8 => (first | (simp only [Act.put, List.setIfInBounds_toArray, List.set_cons_zero, List.set_cons_succ]; first | done | exact rfl) | rfl)); (case' nextra8 => skip))
        (refine' GG.grow_skip (GG.BelL.still) rfl ?wtra9 ?putra9 ?nextra9; (case wtra9 => rfl); (case putra9 => (first | (simp only [Act.put, List.setIfInBounds_toArray, List.set_cons_zero, List.set_cons_succ]; first | done | exact rfl) | rfl)); (case' nextra9 => skip))
        (refine' GG.grow_skip (GG.BelL.still) rfl ?wtra10 ?putra10 ?nextra10; (case wtra10 => rfl); (case putra10 => (first | (simp only [Act.put, List.setIfInBounds_toArray, List.set_cons_zero, List.set_cons_succ]; first | done | exact rfl) | rfl)); (case' nextra10 => skip))
        (refine' GG.grow_skip (GG.BelL.still) rfl ?wtra11 ?putra11 ?nextra11; (case wtra11 => rfl); (case putra11 => (first | (simp only [Act.put, List.setIfInBounds_toArray, List.set_cons_zero, List.set_cons_succ]; first | done | exact rfl) | rfl)); (case' nextra11 => skip))
        (refine' GG.grow_skip (GG.BelL.still) rfl ?wtra12 ?putra12 ?nextra12; (case wtra12 => rfl); (case putra12 => (first | (simp only [Act.put, List.setIfInBounds_toArray, List.set_cons_zero, List.set_cons_succ]; first | done | exact rfl) | rfl)); (case' nextra12 => skip))
        (refine' GG.grow_skip (GG.BelL.still) rfl ?wtra13 ?putra13 ?nextra13; (case wtra13 => rfl); (case putra13 => (first | (simp only [Act.put, List.setIfInBounds_toArray, List.set_cons_zero, List.set_cons_succ]; first | done | exact rfl) | rfl)); (case' nextra13 => skip))
        (refine' GG.grow_skip (GG.BelL.still) rfl ?wtra14 ?putra14 ?nextra14; (case wtra14 => rfl); (case putra14 => (first | (simp only [Act.put, List.setIfInBounds_toArray, List.set_cons_zero, List.set_cons_succ]; first | done | exact rfl) | rfl)); (case' nextra14 => skip))
        (refine' GG.grow_skip (GG.BelL.still) rfl ?wtra15 ?putra15 ?nextra15; (case wtra15 => rfl); (case putra15 => (first | (simp only [Act.put, List.setIfInBounds_toArray, List.set_cons_zero, List.set_cons_succ]; first | done | exact rfl) | rfl)); (case' nextra15 => skip))
        (refine' GG.grow_skip (GG.BelL.still) rfl ?wtra16 ?putra16 ?nextra16; (case wtra16 => rfl); (case putra16 => (first | (simp only [Act.put, List.setIfInBounds_toArray, List.set_cons_zero, List.set_cons_succ]; first | done | exact rfl) | rfl)); (case' nextra16 => skip))
        (refine' GG.grow_skip (GG.BelL.still) rfl ?wtra17 ?putra17 ?nextra17; (case wtra17 => rfl); (case putra17 => (first | (simp only [Act.put, List.setIfInBounds_toArray, List.set_cons_zero, List.set_cons_succ]; first | done | exact rfl) | rfl)); (case' nextra17 => skip))
        (refine' GG.grow_skip (GG.BelL.still) rfl ?wtra18 ?putra18 ?nextra18; (case wtra18 => rfl); (case putra18 => (first | (simp only [Act.put, List.setIfInBounds_toArray, List.set_cons_zero, List.set_cons_succ]; first | done | exact rfl) | rfl)); (case' nextra18 => skip))
        (refine' GG.grow_skip (GG.BelL.still) rfl ?wtra19 ?putra19 ?nextra19; (case wtra19 => rfl); (case putra19 => (first | (simp only [Act.put, List.setIfInBounds_toArray, List.set_cons_zero, List.set_cons_succ]; first | done | exact rfl) | rfl)); (case' nextra19 => skip))
        (refine' GG.grow_skip (GG.BelL.still) rfl ?wtra20 ?putra20 ?nextra20; (case wtra20 => rfl); (case putra20 => (first | (simp only [Act.put, List.setIfInBounds_toArray, List.set_cons_zero, List.set_cons_succ]; first | done | exact rfl) | rfl)); (case' nextra20 => skip))
        (refine' GG.grow_lit (GG.BelL.still) rfl ?wtra21 ?runra21 ?putra21 ?nextra21; (case wtra21 => rfl); (case runra21 => (intro w' hS; (obtain ⟨dn, s, hS⟩ := hS); (obtain ⟨k1, k2⟩ := HIX.out); clear hS; go_simp; first | done | exact rfl)); (case putra21 => (first | (simp only [Act.put, List.setIfInBounds_toArray, List.set_cons_zero, List.set_cons_succ]; first | done | exact rfl) | rfl)); (case' nextra21 => skip))
        intro dn s w1 hS _ _
        have hb := hS.b
        have HBX := Lib.hid (bOn6 HBW.out hb)
        have HBI := Lib.hid (bOn6 HBK.out hb)
        have HZ1 := Lib.hid (HZK.out.below hb)
        clear hS DS0 hb
        go_wp2_with fail
        have DS1 : Hid (GG.Ap3 4 7 11 w1 (fun _ => false) 0 w1.drew) := Lib.hid ⟨fun _ => rfl, fun _ => by omega, fun _ => by omega, by omega, (Below.refl _ _).drew⟩
        have HZL : Hid ((zN o).length = i) := Lib.hid (by rw [zN_len, HOL.out])
        have hz2 : I64s w1 (.slice q (zN o).length c) (zN o) := by rw [HZL.out]; exact HZ1.out
        have HT := Lib.hid (I64s.takeC (k := k) hz2 (by rw [HZL.out]; exact hk))
        have HD := Lib.hid (I64s.dropM (a := k) hz2 (by rw [HZL.out]; exact hk))
        rw [HZL.out] at HD
        have HTL : Hid (((zN o).take k).length = k) := Lib.hid (by rw [List.length_take, HZL.out]; omega)
        have HDL : Hid (((zN o).drop k).length = i - k) := Lib.hid (by rw [List.length_drop, HZL.out])
        have hcap : i ≤ c := by
          obtain ⟨-, -, hc, -⟩ := HZ1.out.capN
          rcases hc with hc | hc
          · exact hc
          · have h2 := HZL.out
            rw [hc] at h2
            simp at h2
            omega
        have hci : (k : Int) ≤ (c : Int) := by omega
        have hii2 : (i : Int) ≤ (c : Int) := by omega
        have hcap2 : k ≤ c := by omega
        have hki9 : (k : Int) ≤ (i : Int) := by omega
        have HNB2 : Hid (((zN o).take k).length + 1 ≤ 100000 ∧ ((zN o).take k ++ [(i : Int)]).length + ((zN o).drop k).length ≤ 100000 ∧ ((zN o).take k).length ≤ 100000 ∧ (zN (o.take k ++ [i] ++ o.drop k)).length = i + 1) := Lib.hid (by
          have h9 := HNB.out
          have h8 := HI.out
          have h7 := HOL.out
          refine ⟨by rw [HTL.out]; omega, by rw [List.length_append, HTL.out, HDL.out]; simp; omega, by rw [HTL.out]; omega, ?_⟩
          rw [zN_len, List.length_append, List.length_append, List.length_take, List.length_drop]
          simp
          omega)
        clear hz2
        refine' GG.wp_thenL _ 12 (GG.Ap3 4 7 11 w1) [[], [], [], [1, 2], [0, 1, 2, 3], [], [5], [0, 1, 2, 3, 4, 5, 6], [], [], [8, 9], [0, 1, 2, 3, 4, 5, 6, 7, 8, 9, 10]] (GG.Fact.prop (Rl := GG.Rl3) _ _ :: GG.Fact.lit (Rl := GG.Rl3) _ :: GG.Fact.lit (Rl := GG.Rl3) _ :: GG.Fact.lit (Rl := GG.Rl3) _ :: GG.Fact.prop (Rl := GG.Rl3) _ _ :: GG.Fact.lit (Rl := GG.Rl3) _ :: GG.Fact.prop (Rl := GG.Rl3) _ _ :: GG.Fact.prop (Rl := GG.Rl3) _ _ :: GG.Fact.lit (Rl := GG.Rl3) _ :: GG.Fact.lit (Rl := GG.Rl3) _ :: GG.Fact.lit (Rl := GG.Rl3) _ :: GG.Fact.prop (Rl := GG.Rl3) _ _ :: []) (by kernel_rfl) rfl (by kernel_rfl) (0) (DS1.out) ?seqrb
        case' seqrb => skip
        (refine' GG.grow_any_op (p := (AtMo 0 (EmpI w1))) (hp := AtMo.st (by decide) (EmpI.stab _)) rfl ?wtrb0 ?runrb0 ?putrb0 ?nextrb0; (case wtrb0 => rfl); (case runrb0 => (intro dn s w' hS hd H; (have hb := below_alloc1 (w := w') (.cells #[] 3)); refine ⟨.slice (some ⟨w'.heap.size, 0, none⟩) 0 0, s, w'.alloc (.cells #[] 3), ?_, fun _ => ⟨_, rfl, Blk.new _ _ _ _ rfl, hS.b.size⟩, (hS.step (by decide) (by decide) (by decide)).old hb, ⟨Nat.le_refl _, fun _ => hb⟩, hb.size⟩; (clear hS H hd hb; go_simp))); (case putrb0 => (intro v; (simp only [Act.put, List.setIfInBounds_toArray, List.set_cons_zero, List.set_cons_succ]; first | done | exact rfl))); (case' nextrb0 => intro v0))
        (refine' GG.grow_lit (GG.Ap3.still (by decide) (by decide) (by decide)) rfl ?wtrb1 ?runrb1 ?putrb1 ?nextrb1; (case wtrb1 => rfl); (case runrb1 => (intro w' hS; (obtain ⟨dn, s, hS⟩ := hS); clear hS; go_simp; first | done | exact rfl)); (case putrb1 => (first | (simp only [Act.put, List.setIfInBounds_toArray, List.set_cons_zero, List.set_cons_succ]; first | done | exact rfl) | rfl)); (case' nextrb1 => skip))
        (refine' GG.grow_lit (GG.Ap3.still (by decide) (by decide) (by decide)) rfl ?wtrb2 ?runrb2 ?putrb2 ?nextrb2; (case wtrb2 => rfl); (case runrb2 => (intro w' hS; (obtain ⟨dn, s, hS⟩ := hS); clear hS; go_simp; first | done | exact rfl)); (case putrb2 => (first | (simp only [Act.put, List.setIfInBounds_toArray, List.set_cons_zero, List.set_cons_succ]; first | done | exact rfl) | rfl)); (case' nextrb2 => skip))
        (refine' GG.grow_write (u := .slice q k c) rfl ?wtrb3 ?runrb3 ?putrb3 ?nextrb3; (case wtrb3 => rfl); (case runrb3 => (intro dn s w' hS hd H; refine ⟨s, w', ?_, hS.step (by decide) (by decide) (by decide), ⟨Nat.le_refl _, fun _ => Below.refl _ _⟩, Nat.le_refl _⟩; clear H hS hd; go_simp)); (case putrb3 => (first | (simp only [Act.put, List.setIfInBounds_toArray, List.set_cons_zero, List.set_cons_succ]; first | done | exact rfl) | rfl)); (case' nextrb3 => skip))
        (refine' GG.grow_any_op (p := (AtSt 1 (OwnI w1 ((zN o).take k)))) (hp := AtSt.st (OwnI.stab _ _)) rfl ?wtrb4 ?runrb4 ?putrb4 ?nextrb4; (case wtrb4 => rfl); (case runrb4 => (intro dn s w' hS hd H; (obtain rfl : s = 0 := hS.h0 hd); (obtain ⟨g, e0, kg, hgb⟩ := (show AtMo 0 (EmpI w1) v0 0 w' from H 0 (by decide)) (Nat.le_refl _)); (have ht := HT.out.below hS.b); (obtain ⟨q', c', w7, hr, ho, hb⟩ := copyOI w' _ _ ht HNB2.out.2.2.1 g w1.heap.size kg hgb); subst e0; exact ⟨_, 1, w7, GG.exec_append (.tmp 38) (.tmp 41) 39 rfl rfl rfl hr, ⟨Nat.le_refl _, fun _ => ⟨q', c', rfl, ho⟩⟩, hS.one hb, ⟨by decide, fun _ => hb⟩, hb.size⟩)); (case putrb4 => (intro v; (simp only [Act.put, List.setIfInBounds_toArray, List.set_cons_zero, List.set_cons_succ]; first | done | exact rfl))); (case' nextrb4 => intro v4))
        (refine' GG.grow_lit (GG.Ap3.still (by decide) (by decide) (by decide)) rfl ?wtrb5 ?runrb5 ?putrb5 ?nextrb5; (case wtrb5 => rfl); (case runrb5 => (intro w' hS; (obtain ⟨dn, s, hS⟩ := hS); clear hS; go_simp; first | done | exact rfl)); (case putrb5 => (first | (simp only [Act.put, List.setIfInBounds_toArray, List.set_cons_zero, List.set_cons_succ]; first | done | exact rfl) | rfl)); (case' nextrb5 => skip))
        (refine' GG.grow_any_op (p := (AtMo 1 (OneI (i : Int)))) (hp := AtMo.st (by decide) (OneI.stab _)) rfl ?wtrb6 ?runrb6 ?putrb6 ?nextrb6; (case wtrb6 => rfl); (case runrb6 => (intro dn s w' hS hd H; (have hb := below_alloc1 (w := w') (.cells #[.int .i64 (i : Int)] 3)); refine ⟨.slice (some ⟨w'.heap.size, 0, none⟩) 1 1, s, w'.alloc (.cells #[.int .i64 (i : Int)] 3), ?_, fun _ => ⟨_, rfl, Blk.new _ _ _ _ rfl⟩, (hS.step (by decide) (by decide) (by decide)).old hb, ⟨Nat.le_refl _, fun _ => hb⟩, hb.size⟩; (clear hS H hd hb; go_simp))); (case putrb6 => (intro v; (simp only [Act.put, List.setIfInBounds_toArray, List.set_cons_zero, List.set_cons_succ]; first | done | exact rfl))); (case' nextrb6 => intro v6))
        (refine' GG.grow_any_op (p := (AtSt 2 (OwnI w1 ((zN o).take k ++ [(i : Int)])))) (hp := AtSt.st (OwnI.stab _ _)) rfl ?wtrb7 ?runrb7 ?putrb7 ?nextrb7; (case wtrb7 => rfl); (case runrb7 => (intro dn s w' hS hd H; (obtain ⟨a1, a2⟩ := (show AtSt 1 (OwnI w1 ((zN o).take k)) v4 s w' from H 4 (by decide))); (obtain rfl : s = 1 := (by have := hS.h1 hd; omega)); (obtain ⟨q0, c0, e0, ho⟩ := a2 rfl); (obtain ⟨g, e1, kg⟩ := (show AtMo 1 (OneI (i : Int)) v6 1 w' from H 6 (by decide)) (Nat.le_refl _)); (obtain ⟨q', c', w7, hr, ho2, hb, hz⟩ := appOI ho (show I64s w' (.slice (some ⟨g, 0, none⟩) 1 1) [(i : Int)] from one_i64s kg) HNB2.out.1 hS.b.size); subst e0; subst e1; exact ⟨_, 2, w7, GG.exec_append (.tmp 42) (.tmp 44) 39 rfl rfl rfl hr, ⟨Nat.le_refl _, fun _ => ⟨q', c', rfl, ho2⟩⟩, hS.two rfl (by decide) (hS.b.trans hb), ⟨by decide, fun h => by omega⟩, hz⟩)); (case putrb7 => (intro v; (simp only [Act.put, List.setIfInBounds_toArray, List.set_cons_zero, List.set_cons_succ]; first | done | exact rfl))); (case' nextrb7 => intro v7))
        (refine' GG.grow_lit (GG.Ap3.still (by decide) (by decide) (by decide)) rfl ?wtrb8 ?runrb8 ?putrb8 ?nextrb8; (case wtrb8 => rfl); (case runrb8 => (intro w' hS; (obtain ⟨dn, s, hS⟩ := hS); clear hS; go_simp; first | done | exact rfl)); (case putrb8 => (first | (simp only [Act.put, List.setIfInBounds_toArray, List.set_cons_zero, List.set_cons_succ]; first | done | exact rfl) | rfl)); (case' nextrb8 => skip))
        (refine' GG.grow_lit (GG.Ap3.still (by decide) (by decide) (by decide)) rfl ?wtrb9 ?runrb9 ?putrb9 ?nextrb9; (case wtrb9 => rfl); (case runrb9 => (intro w' hS; (obtain ⟨dn, s, hS⟩ := hS); clear hS; go_simp; first | done | exact rfl)); (case putrb9 => (first | (simp only [Act.put, List.setIfInBounds_toArray, List.set_cons_zero, List.set_cons_succ]; first | done | exact rfl) | rfl)); (case' nextrb9 => skip))
        (refine' GG.grow_write (u := .slice (movedS q c k) (i - k) (c - k)) rfl ?wtrb10 ?runrb10 ?putrb10 ?nextrb10; (case wtrb10 => rfl); (case runrb10 => (intro dn s w' hS hd H; refine ⟨s, w', ?_, hS.step (by decide) (by decide) (by decide), ⟨Nat.le_refl _, fun _ => Below.refl _ _⟩, Nat.le_refl _⟩; clear H hS hd; go_simp; rfl)); (case putrb10 => (first | (simp only [Act.put, List.setIfInBounds_toArray, List.set_cons_zero, List.set_cons_succ]; first | done | exact rfl) | rfl)); (case' nextrb10 => skip))
        (refine' GG.grow_any_op (p := (AtSt 3 (OwnI w1 ((zN o).take k ++ [(i : Int)] ++ (zN o).drop k)))) (hp := AtSt.st (OwnI.stab _ _)) rfl ?wtrb11 ?runrb11 ?putrb11 ?nextrb11; (case wtrb11 => rfl); (case runrb11 => (intro dn s w' hS hd H; (obtain ⟨a1, a2⟩ := (show AtSt 2 (OwnI w1 ((zN o).take k ++ [(i : Int)])) v7 s w' from H 7 (by decide))); (obtain rfl : s = 2 := (by have := hS.h2 hd; omega)); (obtain ⟨q0, c0, e0, ho⟩ := a2 rfl); (have hd2 := HD.out.below hS.b); (obtain ⟨q', c', w7, hr, ho2, hb, hz⟩ := appOI ho hd2 HNB2.out.2.1 hS.b.size); subst e0; exact ⟨_, 3, w7, GG.exec_append (.tmp 45) (.tmp 48) 39 rfl rfl rfl hr, ⟨Nat.le_refl _, fun _ => ⟨q', c', rfl, ho2⟩⟩, hS.three rfl (by decide) (by decide) (hS.b.trans hb), ⟨by decide, fun h => by omega⟩, hz⟩)); (case putrb11 => (intro v; (simp only [Act.put, List.setIfInBounds_toArray, List.set_cons_zero, List.set_cons_succ]; first | done | exact rfl))); (case' nextrb11 => intro v11))
        intro dn s w8 hS _ hk8
        obtain ⟨h3, h4⟩ : AtSt 3 (OwnI w1 ((zN o).take k ++ [(i : Int)] ++ (zN o).drop k)) v11 s w8 := hk8 11 (by decide)
        obtain ⟨q9, c9, rfl, ho9⟩ := h4 (by have := hS.h3; omega)
        rw [zN_put, HNB2.out.2.2.2] at ho9 ⊢
        have HZ9 : Hid (I64s w8 (.slice q9 (i + 1) c9) (zN (o.take k ++ [i] ++ o.drop k))) := Lib.hid (ints_of_owns ho9 (by rw [HNB2.out.2.2.2]; have := HI.out; have := HNB.out; omega))
        have HB9 := Lib.hid (bOn6 HBX.out hS.b)
        have hlt := HI.out
        clear hk8 hS ho9 h3 h4 hcap hci hii2 hcap2
        refine wpAny_ready (rs := [12]) (by kernel_rfl) (by simp) (AllReady.cons rfl (fun K hK => ?_) AllReady.nil)
        go_simp
        refine hK _ _ ?_
        clear hK K
        refine wpAny_done (by kernel_rfl) ?_ _
        go_wp2_with fail
        go_roundw
        case rel => exact ⟨i + 1, _, q9, c9, by rw [HN.out]; exact hlt, by go_num, by simp, HPUT.out, HZ9.out, HB9.out⟩
        case measure => simp [intOf]; omega
      have hlt2 : k < o.length := by rw [HOL.out]; exact hlk
      obtain ⟨m, hm⟩ : ∃ m, o[k] = m := ⟨_, rfl⟩
      have hmi : m < i := HPO.out.lt (by rw [← hm]; exact List.getElem_mem hlt2)
      obtain ⟨zb, zo, hzq, zc⟩ := HZK.out.at (k := k) (by rw [zN_len]; exact hlt2)
      rw [show (zN o)[k]'(by rw [zN_len]; exact hlt2) = (m : Int) from by simp [zN, hm]] at zc
      have hml : m < l.length := by rw [HN.out]; omega
      obtain ⟨mb, mo, hpe2, pm0, pm1⟩ := (HP.out.below HBW.out).at hml
      injection hpe2 with hpe2
      injection hpe2 with hpe2 hpe3
      subst hpe2 hpe3 hzq
      obtain ⟨⟨xk, yk⟩, hxk⟩ : ∃ x, l[m] = x := ⟨_, rfl⟩
      rw [hxk] at pm0 pm1
      simp only at pm0 pm1
      have HSK : Hid (SmallP (xk, yk)) := Lib.hid (by have := HS.out.at hml; rwa [hxk] at this)
      have HKK : Hid (keyL (xk, yk) d = kAt l d m) := Lib.hid (by simp [kAt, hml, hxk])
      obtain ⟨KK, hKK⟩ : ∃ x, kAt l d m = x := ⟨_, rfl⟩
      rw [hKK] at HKK
      have PK0 := Lib.hid pm0
      have PK1 := Lib.hid pm1
      have ZK := Lib.hid zc
      have HIX : Hid (k < i ∧ (k : Int) < (i : Int) ∧ (m : Int) < (N : Int) ∧ (i : Int) < (N : Int) ∧ m < i) := Lib.hid ⟨hlk, by omega, by omega, hii, hmi⟩
      have HOK : Hid (o[k]? = some m) := Lib.hid (by rw [List.getElem?_eq_getElem hlt2, hm])
      have HKM := Lib.hid hKK
      have hlki : (k : Int) < (i : Int) := by omega
      clear hm hxk hKK pm0 pm1 zc hml hmi hlt2
      by_cases hcmp : KK ≤ KI
      · have HNX : Hid (∀ j (hj : j < o.length), j < k + 1 → kAt l d o[j] ≤ kAt l d i) := Lib.hid fun j hj h => by
          by_cases e : j = k
          · subst e
            have e2 : o[j] = m := Option.some.inj ((List.getElem?_eq_getElem hj).symm.trans HOK.out)
            rw [e2, HKM.out, HKN.out]
            exact hcmp
          · exact HLE.out j hj (by omega)
        go_wp2_with fail
        refine' GG.wp_growL _ (GG.BelL wr) [[], [], [1], [0, 1, 2], [0, 1, 2, 3], [0, 1, 2, 3, 4], [0, 1, 2, 3, 4], [0, 1, 2, 3, 4], [0, 1, 2, 3, 4, 6, 7], [0, 1, 2, 3, 4, 6, 7, 8], [0, 1, 2, 3, 4, 5, 6, 7, 8, 9], [0, 1, 2, 3, 4, 5, 6, 7, 8, 9, 10], [0, 1, 2, 3, 4], [0, 1, 2, 3, 4, 5, 6, 7, 8, 9, 10, 11, 12], [0, 1, 2, 3, 4], [0, 1, 2, 3, 4], [0, 1, 2, 3, 4, 14, 15], [0, 1, 2, 3, 4, 14, 15, 16], [0, 1, 2, 3, 4], [0, 1, 2, 3, 4, 5, 6, 7, 8, 9, 10, 11, 12, 13, 14, 15, 16, 17, 18], [0, 1, 2, 3, 4, 5, 6, 7, 8, 9, 10, 11, 12, 13, 14, 15, 16, 17, 18, 19], [0, 1, 2, 3, 4, 5, 6, 7, 8, 9, 10, 11, 12, 13, 14, 15, 16, 17, 18, 19, 20]] (GG.Fact.lit (Rl := GG.RlL) _ :: GG.Fact.lit (Rl := GG.RlL) _ :: GG.Fact.lit (Rl := GG.RlL) _ :: GG.Fact.lit (Rl := GG.RlL) _ :: GG.Fact.lit (Rl := GG.RlL) _ :: GG.Fact.lit (Rl := GG.RlL) _ :: GG.Fact.lit (Rl := GG.RlL) _ :: GG.Fact.lit (Rl := GG.RlL) _ :: GG.Fact.lit (Rl := GG.RlL) _ :: GG.Fact.lit (Rl := GG.RlL) _ :: GG.Fact.lit (Rl := GG.RlL) _ :: GG.Fact.lit (Rl := GG.RlL) _ :: GG.Fact.lit (Rl := GG.RlL) _ :: GG.Fact.lit (Rl := GG.RlL) _ :: GG.Fact.lit (Rl := GG.RlL) _ :: GG.Fact.lit (Rl := GG.RlL) _ :: GG.Fact.lit (Rl := GG.RlL) _ :: GG.Fact.lit (Rl := GG.RlL) _ :: GG.Fact.lit (Rl := GG.RlL) _ :: GG.Fact.lit (Rl := GG.RlL) _ :: GG.Fact.lit (Rl := GG.RlL) _ :: GG.Fact.lit (Rl := GG.RlL) _ :: []) (by kernel_rfl) rfl (by kernel_rfl) (()) (DS0.out) ?seqrc
        case' seqrc => skip
        (refine' GG.grow_lit (GG.BelL.still) rfl ?wtrc0 ?runrc0 ?putrc0 ?nextrc0; (case wtrc0 => rfl); (case runrc0 => (intro w' hS; (obtain ⟨dn, s, hS⟩ := hS); (have a0 := keep hS.b PI0.out); (have a1 := keep hS.b PI1.out); (have al := World.block_lt_of_cell? _ _ a0); (obtain ⟨k1, k2, k3, k4, k5⟩ := HIX.out); (have b0 := keep hS.b PK0.out); (have b1 := keep hS.b PK1.out); (have z0 := keep hS.b ZK.out); (have bl := World.block_lt_of_cell? _ _ z0); clear hS; go_simp; first | done | exact rfl)); (case putrc0 => (first | (simp only [Act.put, List.setIfInBounds_toArray, List.set_cons_zero, List.set_cons_succ]; first | done | exact rfl) | rfl)); (case' nextrc0 => skip))
        (refine' GG.grow_lit (GG.BelL.still) rfl ?wtrc1 ?runrc1 ?putrc1 ?nextrc1; (case wtrc1 => rfl); (case runrc1 => (intro w' hS; (obtain ⟨dn, s, hS⟩ := hS); (have a0 := keep hS.b PI0.out); (have a1 := keep hS.b PI1.out); (have al := World.block_lt_of_cell? _ _ a0); (obtain ⟨k1, k2, k3, k4, k5⟩ := HIX.out); (have b0 := keep hS.b PK0.out); (have b1 := keep hS.b PK1.out); (have z0 := keep hS.b ZK.out); (have bl := World.block_lt_of_cell? _ _ z0); clear hS; go_simp; first | done | exact rfl)); (case putrc1 => (first | (simp only [Act.put, List.setIfInBounds_toArray, List.set_cons_zero, List.set_cons_succ]; first | done | exact rfl) | rfl)); (case' nextrc1 => skip))
        (refine' GG.grow_lit (GG.BelL.still) rfl ?wtrc2 ?runrc2 ?putrc2 ?nextrc2; (case wtrc2 => rfl); (case runrc2 => (intro w' hS; (obtain ⟨dn, s, hS⟩ := hS); (have a0 := keep hS.b PI0.out); (have a1 := keep hS.b PI1.out); (have al := World.block_lt_of_cell? _ _ a0); (obtain ⟨k1, k2, k3, k4, k5⟩ := HIX.out); (have b0 := keep hS.b PK0.out); (have b1 := keep hS.b PK1.out); (have z0 := keep hS.b ZK.out); (have bl := World.block_lt_of_cell? _ _ z0); clear hS; go_simp; first | done | exact rfl)); (case putrc2 => (first | (simp only [Act.put, List.setIfInBounds_toArray, List.set_cons_zero, List.set_cons_succ]; first | done | exact rfl) | rfl)); (case' nextrc2 => skip))
        (refine' GG.grow_lit (GG.BelL.still) rfl ?wtrc3 ?runrc3 ?putrc3 ?nextrc3; (case wtrc3 => rfl); (case runrc3 => (intro w' hS; (obtain ⟨dn, s, hS⟩ := hS); (have a0 := keep hS.b PI0.out); (have a1 := keep hS.b PI1.out); (have al := World.block_lt_of_cell? _ _ a0); (obtain ⟨k1, k2, k3, k4, k5⟩ := HIX.out); (have b0 := keep hS.b PK0.out); (have b1 := keep hS.b PK1.out); (have z0 := keep hS.b ZK.out); (have bl := World.block_lt_of_cell? _ _ z0); clear hS; go_simp; first | done | exact rfl)); (case putrc3 => (first | (simp only [Act.put, List.setIfInBounds_toArray, List.set_cons_zero, List.set_cons_succ]; first | done | exact rfl) | rfl)); (case' nextrc3 => skip))
        (refine' GG.grow_lit (GG.BelL.still) rfl ?wtrc4 ?runrc4 ?putrc4 ?nextrc4; (case wtrc4 => rfl); (case runrc4 => (intro w' hS; (obtain ⟨dn, s, hS⟩ := hS); (have a0 := keep hS.b PI0.out); (have a1 := keep hS.b PI1.out); (have al := World.block_lt_of_cell? _ _ a0); (obtain ⟨k1, k2, k3, k4, k5⟩ := HIX.out); (have b0 := keep hS.b PK0.out); (have b1 := keep hS.b PK1.out); (have z0 := keep hS.b ZK.out); (have bl := World.block_lt_of_cell? _ _ z0); clear hS; go_simp; first | done | exact rfl)); (case putrc4 => (first | (simp only [Act.put, List.setIfInBounds_toArray, List.set_cons_zero, List.set_cons_succ]; first | done | exact rfl) | rfl)); (case' nextrc4 => skip))
        (refine' GG.grow_lit (GG.BelL.still) rfl ?wtrc5 ?runrc5 ?putrc5 ?nextrc5; (case wtrc5 => rfl); (case runrc5 => (intro w' hS; (obtain ⟨dn, s, hS⟩ := hS); (have a0 := keep hS.b PI0.out); (have a1 := keep hS.b PI1.out); (have al := World.block_lt_of_cell? _ _ a0); (obtain ⟨k1, k2, k3, k4, k5⟩ := HIX.out); (have b0 := keep hS.b PK0.out); (have b1 := keep hS.b PK1.out); (have z0 := keep hS.b ZK.out); (have bl := World.block_lt_of_cell? _ _ z0); clear hS; go_simp; first | done | exact rfl)); (case putrc5 => (first | (simp only [Act.put, List.setIfInBounds_toArray, List.set_cons_zero, List.set_cons_succ]; first | done | exact rfl) | rfl)); (case' nextrc5 => skip))
        (refine' GG.grow_lit (GG.BelL.still) rfl ?wtrc6 ?runrc6 ?putrc6 ?nextrc6; (case wtrc6 => rfl); (case runrc6 => (intro w' hS; (obtain ⟨dn, s, hS⟩ := hS); (have a0 := keep hS.b PI0.out); (have a1 := keep hS.b PI1.out); (have al := World.block_lt_of_cell? _ _ a0); (obtain ⟨k1, k2, k3, k4, k5⟩ := HIX.out); (have b0 := keep hS.b PK0.out); (have b1 := keep hS.b PK1.out); (have z0 := keep hS.b ZK.out); (have bl := World.block_lt_of_cell? _ _ z0); clear hS; go_simp; first | done | exact rfl)); (case putrc6 => (first | (simp only [Act.put, List.setIfInBounds_toArray, List.set_cons_zero, List.set_cons_succ]; first | done | exact rfl) | rfl)); (case' nextrc6 => skip))
        (refine' GG.grow_lit (GG.BelL.still) rfl ?wtrc7 ?runrc7 ?putrc7 ?nextrc7; (case wtrc7 => rfl); (case runrc7 => (intro w' hS; (obtain ⟨dn, s, hS⟩ := hS); (have a0 := keep hS.b PI0.out); (have a1 := keep hS.b PI1.out); (have al := World.block_lt_of_cell? _ _ a0); (obtain ⟨k1, k2, k3, k4, k5⟩ := HIX.out); (have b0 := keep hS.b PK0.out); (have b1 := keep hS.b PK1.out); (have z0 := keep hS.b ZK.out); (have bl := World.block_lt_of_cell? _ _ z0); clear hS; go_simp; first | done | exact rfl)); (case putrc7 => (first | (simp only [Act.put, List.setIfInBounds_toArray, List.set_cons_zero, List.set_cons_succ]; first | done | exact rfl) | rfl)); (case' nextrc7 => skip))
        (refine' GG.grow_lit (GG.BelL.still) rfl ?wtrc8 ?runrc8 ?putrc8 ?nextrc8; (case wtrc8 => rfl); (case runrc8 => (intro w' hS; (obtain ⟨dn, s, hS⟩ := hS); (have a0 := keep hS.b PI0.out); (have a1 := keep hS.b PI1.out); (have al := World.block_lt_of_cell? _ _ a0); (obtain ⟨k1, k2, k3, k4, k5⟩ := HIX.out); (have b0 := keep hS.b PK0.out); (have b1 := keep hS.b PK1.out); (have z0 := keep hS.b ZK.out); (have bl := World.block_lt_of_cell? _ _ z0); clear hS; go_simp; first | done | exact rfl)); (case putrc8 => (first | (simp only [Act.put, List.setIfInBounds_toArray, List.set_cons_zero, List.set_cons_succ]; first | done | exact rfl) | rfl)); (case' nextrc8 => skip))
        (refine' GG.grow_lit (GG.BelL.still) rfl ?wtrc9 ?runrc9 ?putrc9 ?nextrc9; (case wtrc9 => rfl); (case runrc9 => (intro w' hS; (obtain ⟨dn, s, hS⟩ := hS); (have a0 := keep hS.b PI0.out); (have a1 := keep hS.b PI1.out); (have al := World.block_lt_of_cell? _ _ a0); (obtain ⟨k1, k2, k3, k4, k5⟩ := HIX.out); (have b0 := keep hS.b PK0.out); (have b1 := keep hS.b PK1.out); (have z0 := keep hS.b ZK.out); (have bl := World.block_lt_of_cell? _ _ z0); clear hS; go_simp; first | done | exact rfl)); (case putrc9 => (first | (simp only [Act.put, List.setIfInBounds_toArray, List.set_cons_zero, List.set_cons_succ]; first | done | exact rfl) | rfl)); (case' nextrc9 => skip))
        (refine' GG.grow_lit (GG.BelL.still) rfl ?wtrc10 ?runrc10 ?putrc10 ?nextrc10; (case wtrc10 => rfl); (case runrc10 => (intro w' hS; (obtain ⟨dn, s, hS⟩ := hS); (have a0 := keep hS.b PI0.out); (have a1 := keep hS.b PI1.out); (have al := World.block_lt_of_cell? _ _ a0); (obtain ⟨k1, k2, k3, k4, k5⟩ := HIX.out); (have b0 := keep hS.b PK0.out); (have b1 := keep hS.b PK1.out); (have z0 := keep hS.b ZK.out); (have bl := World.block_lt_of_cell? _ _ z0); clear hS; go_simp; first | done | exact rfl)); (case putrc10 => (first | (simp only [Act.put, List.setIfInBounds_toArray, List.set_cons_zero, List.set_cons_succ]; first | done | exact rfl) | rfl)); (case' nextrc10 => skip))
        (refine' GG.grow_lit (GG.BelL.still) rfl ?wtrc11 ?runrc11 ?putrc11 ?nextrc11; (case wtrc11 => rfl); (case runrc11 => (intro w' hS; (obtain ⟨dn, s, hS⟩ := hS); (have a0 := keep hS.b PI0.out); (have a1 := keep hS.b PI1.out); (have al := World.block_lt_of_cell? _ _ a0); (obtain ⟨k1, k2, k3, k4, k5⟩ := HIX.out); (have b0 := keep hS.b PK0.out); (have b1 := keep hS.b PK1.out); (have z0 := keep hS.b ZK.out); (have bl := World.block_lt_of_cell? _ _ z0); clear hS; go_simp; first | done | exact rfl)); (case putrc11 => (first | (simp only [Act.put, List.setIfInBounds_toArray, List.set_cons_zero, List.set_cons_succ]; first | done | exact rfl) | rfl)); (case' nextrc11 => skip))
        (refine' GG.grow_lit (GG.BelL.still) rfl ?wtrc12 ?runrc12 ?putrc12 ?nextrc12; (case wtrc12 => rfl); (case runrc12 => (intro w' hS; (obtain ⟨dn, s, hS⟩ := hS); (have a0 := keep hS.b PI0.out); (have a1 := keep hS.b PI1.out); (have al := World.block_lt_of_cell? _ _ a0); (obtain ⟨k1, k2, k3, k4, k5⟩ := HIX.out); (have b0 := keep hS.b PK0.out); (have b1 := keep hS.b PK1.out); (have z0 := keep hS.b ZK.out); (have bl := World.block_lt_of_cell? _ _ z0); clear hS; go_simp; first | done | exact rfl)); (case putrc12 => (first | (simp only [Act.put, List.setIfInBounds_toArray, List.set_cons_zero, List.set_cons_succ]; first | done | exact rfl) | rfl)); (case' nextrc12 => skip))
        (refine' GG.grow_lit_call (u := .int .i64 KK) rfl Tryz.func23 (by kernel_rfl) rfl rfl ?wtrc13 ?runrc13 ?putrc13 ?nextrc13; (case wtrc13 => rfl); (case runrc13 => (intro dn s w' hS hd H; exact (rkey_is xk yk d w' HSK.out HKK.out).mono (fun e w2 h => ⟨(), h.1, ⟨hS.b.trans (h.2.mono hS.b.size)⟩, h.2, h.2.size⟩))); (case putrc13 => (first | (simp only [Act.put, List.setIfInBounds_toArray, List.set_cons_zero, List.set_cons_succ]; first | done | exact rfl) | rfl)); (case' nextrc13 => skip))
        (refine' GG.grow_lit (GG.BelL.still) rfl ?wtrc14 ?runrc14 ?putrc14 ?nextrc14; (case wtrc14 => rfl); (case runrc14 => (intro w' hS; (obtain ⟨dn, s, hS⟩ := hS); (have a0 := keep hS.b PI0.out); (have a1 := keep hS.b PI1.out); (have al := World.block_lt_of_cell? _ _ a0); (obtain ⟨k1, k2, k3, k4, k5⟩ := HIX.out); (have b0 := keep hS.b PK0.out); (have b1 := keep hS.b PK1.out); (have z0 := keep hS.b ZK.out); (have bl := World.block_lt_of_cell? _ _ z0); clear hS; go_simp; first | done | exact rfl)); (case putrc14 => (first | (simp only [Act.put, List.setIfInBounds_toArray, List.set_cons_zero, List.set_cons_succ]; first | done | exact rfl) | rfl)); (case' nextrc14 => skip))
        (refine' GG.grow_lit (GG.BelL.still) rfl ?wtrc15 ?runrc15 ?putrc15 ?nextrc15; (case wtrc15 => rfl); (case runrc15 => (intro w' hS; (obtain ⟨dn, s, hS⟩ := hS); (have a0 := keep hS.b PI0.out); (have a1 := keep hS.b PI1.out); (have al := World.block_lt_of_cell? _ _ a0); (obtain ⟨k1, k2, k3, k4, k5⟩ := HIX.out); (have b0 := keep hS.b PK0.out); (have b1 := keep hS.b PK1.out); (have z0 := keep hS.b ZK.out); (have bl := World.block_lt_of_cell? _ _ z0); clear hS; go_simp; first | done | exact rfl)); (case putrc15 => (first | (simp only [Act.put, List.setIfInBounds_toArray, List.set_cons_zero, List.set_cons_succ]; first | done | exact rfl) | rfl)); (case' nextrc15 => skip))
        (refine' GG.grow_lit (GG.BelL.still) rfl ?wtrc16 ?runrc16 ?putrc16 ?nextrc16; (case wtrc16 => rfl); (case runrc16 => (intro w' hS; (obtain ⟨dn, s, hS⟩ := hS); (have a0 := keep hS.b PI0.out); (have a1 := keep hS.b PI1.out); (have al := World.block_lt_of_cell? _ _ a0); (obtain ⟨k1, k2, k3, k4, k5⟩ := HIX.out); (have b0 := keep hS.b PK0.out); (have b1 := keep hS.b PK1.out); (have z0 := keep hS.b ZK.out); (have bl := World.block_lt_of_cell? _ _ z0); clear hS; go_simp; first | done | exact rfl)); (case putrc16 => (first | (simp only [Act.put, List.setIfInBounds_toArray, List.set_cons_zero, List.set_cons_succ]; first | done | exact rfl) | rfl)); (case' nextrc16 => skip))
        (refine' GG.grow_lit (GG.BelL.still) rfl ?wtrc17 ?runrc17 ?putrc17 ?nextrc17; (case wtrc17 => rfl); (case runrc17 => (intro w' hS; (obtain ⟨dn, s, hS⟩ := hS); (have a0 := keep hS.b PI0.out); (have a1 := keep hS.b PI1.out); (have al := World.block_lt_of_cell? _ _ a0); (obtain ⟨k1, k2, k3, k4, k5⟩ := HIX.out); (have b0 := keep hS.b PK0.out); (have b1 := keep hS.b PK1.out); (have z0 := keep hS.b ZK.out); (have bl := World.block_lt_of_cell? _ _ z0); clear hS; go_simp; first | done | exact rfl)); (case putrc17 => (first | (simp only [Act.put, List.setIfInBounds_toArray, List.set_cons_zero, List.set_cons_succ]; first | done | exact rfl) | rfl)); (case' nextrc17 => skip))
        (refine' GG.grow_lit (GG.BelL.still) rfl ?wtrc18 ?runrc18 ?putrc18 ?nextrc18; (case wtrc18 => rfl); (case runrc18 => (intro w' hS; (obtain ⟨dn, s, hS⟩ := hS); (have a0 := keep hS.b PI0.out); (have a1 := keep hS.b PI1.out); (have al := World.block_lt_of_cell? _ _ a0); (obtain ⟨k1, k2, k3, k4, k5⟩ := HIX.out); (have b0 := keep hS.b PK0.out); (have b1 := keep hS.b PK1.out); (have z0 := keep hS.b ZK.out); (have bl := World.block_lt_of_cell? _ _ z0); clear hS; go_simp; first | done | exact rfl)); (case putrc18 => (first | (simp only [Act.put, List.setIfInBounds_toArray, List.set_cons_zero, List.set_cons_succ]; first | done | exact rfl) | rfl)); (case' nextrc18 => skip))
        (refine' GG.grow_lit_call (u := .int .i64 KI) rfl Tryz.func23 (by kernel_rfl) rfl rfl ?wtrc19 ?runrc19 ?putrc19 ?nextrc19; (case wtrc19 => rfl); (case runrc19 => (intro dn s w' hS hd H; exact (rkey_is xi yi d w' HSI.out HKI.out).mono (fun e w2 h => ⟨(), h.1, ⟨hS.b.trans (h.2.mono hS.b.size)⟩, h.2, h.2.size⟩))); (case putrc19 => (first | (simp only [Act.put, List.setIfInBounds_toArray, List.set_cons_zero, List.set_cons_succ]; first | done | exact rfl) | rfl)); (case' nextrc19 => skip))
        (refine' GG.grow_lit (GG.BelL.still) rfl ?wtrc20 ?runrc20 ?putrc20 ?nextrc20; (case wtrc20 => rfl); (case runrc20 => (intro w' hS; (obtain ⟨dn, s, hS⟩ := hS); (have a0 := keep hS.b PI0.out); (have a1 := keep hS.b PI1.out); (have al := World.block_lt_of_cell? _ _ a0); (obtain ⟨k1, k2, k3, k4, k5⟩ := HIX.out); (have b0 := keep hS.b PK0.out); (have b1 := keep hS.b PK1.out); (have z0 := keep hS.b ZK.out); (have bl := World.block_lt_of_cell? _ _ z0); clear hS; go_simp; first | done | exact rfl)); (case putrc20 => (first | (simp only [Act.put, List.setIfInBounds_toArray, List.set_cons_zero, List.set_cons_succ]; first | done | exact rfl) | rfl)); (case' nextrc20 => skip))
        (refine' GG.grow_lit (GG.BelL.still) rfl ?wtrc21 ?runrc21 ?putrc21 ?nextrc21; (case wtrc21 => rfl); (case runrc21 => (intro w' hS; (obtain ⟨dn, s, hS⟩ := hS); (have a0 := keep hS.b PI0.out); (have a1 := keep hS.b PI1.out); (have al := World.block_lt_of_cell? _ _ a0); (obtain ⟨k1, k2, k3, k4, k5⟩ := HIX.out); (have b0 := keep hS.b PK0.out); (have b1 := keep hS.b PK1.out); (have z0 := keep hS.b ZK.out); (have bl := World.block_lt_of_cell? _ _ z0); clear hS; go_simp; first | done | exact rfl)); (case putrc21 => (first | (simp only [Act.put, List.setIfInBounds_toArray, List.set_cons_zero, List.set_cons_succ]; first | done | exact rfl) | rfl)); (case' nextrc21 => skip))
        intro dn s w1 hS _ _
        have hb := hS.b
        have HBX := Lib.hid (bOn6 HBW.out hb)
        have HBI := Lib.hid (bOn6 HBK.out hb)
        have HZ1 := Lib.hid (HZK.out.below hb)
        clear hS DS0 hb
        obtain ⟨k1, k2, k3, k4, k5⟩ := HIX.out
        clear hcmp
        go_wp2_with fail
        go_roundw
        case rel => exact ⟨k + 1, k1, by go_num, HNX.out, HBI.out⟩
        case measure => simp [intOf]; omega
      · have HPUT : Hid (PreO l d (i + 1) (o.take k ++ [i] ++ o.drop k)) := Lib.hid (HPO.out.put (by omega) HLE.out (fun _ x hx => by
          obtain rfl := Option.some.inj (HOK.out.symm.trans hx)
          rw [HKM.out, HKN.out]
          omega))
        have dcmp : decide (KK ≤ KI) = false := decide_eq_false hcmp
        go_wp2_with fail
        refine' GG.wp_growL _ (GG.BelL wr) [[], [], [1], [0, 1, 2], [0, 1, 2, 3], [0, 1, 2, 3, 4], [0, 1, 2, 3, 4], [0, 1, 2, 3, 4], [0, 1, 2, 3, 4, 6, 7], [0, 1, 2, 3, 4, 6, 7, 8], [0, 1, 2, 3, 4, 5, 6, 7, 8, 9], [0, 1, 2, 3, 4, 5, 6, 7, 8, 9, 10], [0, 1, 2, 3, 4], [0, 1, 2, 3, 4, 5, 6, 7, 8, 9, 10, 11, 12], [0, 1, 2, 3, 4], [0, 1, 2, 3, 4], [0, 1, 2, 3, 4, 14, 15], [0, 1, 2, 3, 4, 14, 15, 16], [0, 1, 2, 3, 4], [0, 1, 2, 3, 4, 5, 6, 7, 8, 9, 10, 11, 12, 13, 14, 15, 16, 17, 18], [0, 1, 2, 3, 4, 5, 6, 7, 8, 9, 10, 11, 12, 13, 14, 15, 16, 17, 18, 19], [0, 1, 2, 3, 4, 5, 6, 7, 8, 9, 10, 11, 12, 13, 14, 15, 16, 17, 18, 19, 20]] (GG.Fact.lit (Rl := GG.RlL) _ :: GG.Fact.lit (Rl := GG.RlL) _ :: GG.Fact.lit (Rl := GG.RlL) _ :: GG.Fact.lit (Rl := GG.RlL) _ :: GG.Fact.lit (Rl := GG.RlL) _ :: GG.Fact.lit (Rl := GG.RlL) _ :: GG.Fact.lit (Rl := GG.RlL) _ :: GG.Fact.lit (Rl := GG.RlL) _ :: GG.Fact.lit (Rl := GG.RlL) _ :: GG.Fact.lit (Rl := GG.RlL) _ :: GG.Fact.lit (Rl := GG.RlL) _ :: GG.Fact.lit (Rl := GG.RlL) _ :: GG.Fact.lit (Rl := GG.RlL) _ :: GG.Fact.lit (Rl := GG.RlL) _ :: GG.Fact.lit (Rl := GG.RlL) _ :: GG.Fact.lit (Rl := GG.RlL) _ :: GG.Fact.lit (Rl := GG.RlL) _ :: GG.Fact.lit (Rl := GG.RlL) _ :: GG.Fact.lit (Rl := GG.RlL) _ :: GG.Fact.lit (Rl := GG.RlL) _ :: GG.Fact.lit (Rl := GG.RlL) _ :: GG.Fact.lit (Rl := GG.RlL) _ :: []) (by kernel_rfl) rfl (by kernel_rfl) (()) (DS0.out) ?seqrd
        case' seqrd => skip
        (refine' GG.grow_lit (GG.BelL.still) rfl ?wtrd0 ?runrd0 ?putrd0 ?nextrd0; (case wtrd0 => rfl); (case runrd0 => (intro w' hS; (obtain ⟨dn, s, hS⟩ := hS); (have a0 := keep hS.b PI0.out); (have a1 := keep hS.b PI1.out); (have al := World.block_lt_of_cell? _ _ a0); (obtain ⟨k1, k2, k3, k4, k5⟩ := HIX.out); (have b0 := keep hS.b PK0.out); (have b1 := keep hS.b PK1.out); (have z0 := keep hS.b ZK.out); (have bl := World.block_lt_of_cell? _ _ z0); clear hS; go_simp; first | done | exact rfl)); (case putrd0 => (first | (simp only [Act.put, List.setIfInBounds_toArray, List.set_cons_zero, List.set_cons_succ]; first | done | exact rfl) | rfl)); (case' nextrd0 => skip))
        (refine' GG.grow_lit (GG.BelL.still) rfl ?wtrd1 ?runrd1 ?putrd1 ?nextrd1; (case wtrd1 => rfl); (case runrd1 => (intro w' hS; (obtain ⟨dn, s, hS⟩ := hS); (have a0 := keep hS.b PI0.out); (have a1 := keep hS.b PI1.out); (have al := World.block_lt_of_cell? _ _ a0); (obtain ⟨k1, k2, k3, k4, k5⟩ := HIX.out); (have b0 := keep hS.b PK0.out); (have b1 := keep hS.b PK1.out); (have z0 := keep hS.b ZK.out); (have bl := World.block_lt_of_cell? _ _ z0); clear hS; go_simp; first | done | exact rfl)); (case putrd1 => (first | (simp only [Act.put, List.setIfInBounds_toArray, List.set_cons_zero, List.set_cons_succ]; first | done | exact rfl) | rfl)); (case' nextrd1 => skip))
        (refine' GG.grow_lit (GG.BelL.still) rfl ?wtrd2 ?runrd2 ?putrd2 ?nextrd2; (case wtrd2 => rfl); (case runrd2 => (intro w' hS; (obtain ⟨dn, s, hS⟩ := hS); (have a0 := keep hS.b PI0.out); (have a1 := keep hS.b PI1.out); (have al := World.block_lt_of_cell? _ _ a0); (obtain ⟨k1, k2, k3, k4, k5⟩ := HIX.out); (have b0 := keep hS.b PK0.out); (have b1 := keep hS.b PK1.out); (have z0 := keep hS.b ZK.out); (have bl := World.block_lt_of_cell? _ _ z0); clear hS; go_simp; first | done | exact rfl)); (case putrd2 => (first | (simp only [Act.put, List.setIfInBounds_toArray, List.set_cons_zero, List.set_cons_succ]; first | done | exact rfl) | rfl)); (case' nextrd2 => skip))
        (refine' GG.grow_lit (GG.BelL.still) rfl ?wtrd3 ?runrd3 ?putrd3 ?nextrd3; (case wtrd3 => rfl); (case runrd3 => (intro w' hS; (obtain ⟨dn, s, hS⟩ := hS); (have a0 := keep hS.b PI0.out); (have a1 := keep hS.b PI1.out); (have al := World.block_lt_of_cell? _ _ a0); (obtain ⟨k1, k2, k3, k4, k5⟩ := HIX.out); (have b0 := keep hS.b PK0.out); (have b1 := keep hS.b PK1.out); (have z0 := keep hS.b ZK.out); (have bl := World.block_lt_of_cell? _ _ z0); clear hS; go_simp; first | done | exact rfl)); (case putrd3 => (first | (simp only [Act.put, List.setIfInBounds_toArray, List.set_cons_zero, List.set_cons_succ]; first | done | exact rfl) | rfl)); (case' nextrd3 => skip))
        (refine' GG.grow_lit (GG.BelL.still) rfl ?wtrd4 ?runrd4 ?putrd4 ?nextrd4; (case wtrd4 => rfl); (case runrd4 => (intro w' hS; (obtain ⟨dn, s, hS⟩ := hS); (have a0 := keep hS.b PI0.out); (have a1 := keep hS.b PI1.out); (have al := World.block_lt_of_cell? _ _ a0); (obtain ⟨k1, k2, k3, k4, k5⟩ := HIX.out); (have b0 := keep hS.b PK0.out); (have b1 := keep hS.b PK1.out); (have z0 := keep hS.b ZK.out); (have bl := World.block_lt_of_cell? _ _ z0); clear hS; go_simp; first | done | exact rfl)); (case putrd4 => (first | (simp only [Act.put, List.setIfInBounds_toArray, List.set_cons_zero, List.set_cons_succ]; first | done | exact rfl) | rfl)); (case' nextrd4 => skip))
        (refine' GG.grow_lit (GG.BelL.still) rfl ?wtrd5 ?runrd5 ?putrd5 ?nextrd5; (case wtrd5 => rfl); (case runrd5 => (intro w' hS; (obtain ⟨dn, s, hS⟩ := hS); (have a0 := keep hS.b PI0.out); (have a1 := keep hS.b PI1.out); (have al := World.block_lt_of_cell? _ _ a0); (obtain ⟨k1, k2, k3, k4, k5⟩ := HIX.out); (have b0 := keep hS.b PK0.out); (have b1 := keep hS.b PK1.out); (have z0 := keep hS.b ZK.out); (have bl := World.block_lt_of_cell? _ _ z0); clear hS; go_simp; first | done | exact rfl)); (case putrd5 => (first | (simp only [Act.put, List.setIfInBounds_toArray, List.set_cons_zero, List.set_cons_succ]; first | done | exact rfl) | rfl)); (case' nextrd5 => skip))
        (refine' GG.grow_lit (GG.BelL.still) rfl ?wtrd6 ?runrd6 ?putrd6 ?nextrd6; (case wtrd6 => rfl); (case runrd6 => (intro w' hS; (obtain ⟨dn, s, hS⟩ := hS); (have a0 := keep hS.b PI0.out); (have a1 := keep hS.b PI1.out); (have al := World.block_lt_of_cell? _ _ a0); (obtain ⟨k1, k2, k3, k4, k5⟩ := HIX.out); (have b0 := keep hS.b PK0.out); (have b1 := keep hS.b PK1.out); (have z0 := keep hS.b ZK.out); (have bl := World.block_lt_of_cell? _ _ z0); clear hS; go_simp; first | done | exact rfl)); (case putrd6 => (first | (simp only [Act.put, List.setIfInBounds_toArray, List.set_cons_zero, List.set_cons_succ]; first | done | exact rfl) | rfl)); (case' nextrd6 => skip))
        (refine' GG.grow_lit (GG.BelL.still) rfl ?wtrd7 ?runrd7 ?putrd7 ?nextrd7; (case wtrd7 => rfl); (case runrd7 => (intro w' hS; (obtain ⟨dn, s, hS⟩ := hS); (have a0 := keep hS.b PI0.out); (have a1 := keep hS.b PI1.out); (have al := World.block_lt_of_cell? _ _ a0); (obtain ⟨k1, k2, k3, k4, k5⟩ := HIX.out); (have b0 := keep hS.b PK0.out); (have b1 := keep hS.b PK1.out); (have z0 := keep hS.b ZK.out); (have bl := World.block_lt_of_cell? _ _ z0); clear hS; go_simp; first | done | exact rfl)); (case putrd7 => (first | (simp only [Act.put, List.setIfInBounds_toArray, List.set_cons_zero, List.set_cons_succ]; first | done | exact rfl) | rfl)); (case' nextrd7 => skip))
        (refine' GG.grow_lit (GG.BelL.still) rfl ?wtrd8 ?runrd8 ?putrd8 ?nextrd8; (case wtrd8 => rfl); (case runrd8 => (intro w' hS; (obtain ⟨dn, s, hS⟩ := hS); (have a0 := keep hS.b PI0.out); (have a1 := keep hS.b PI1.out); (have al := World.block_lt_of_cell? _ _ a0); (obtain ⟨k1, k2, k3, k4, k5⟩ := HIX.out); (have b0 := keep hS.b PK0.out); (have b1 := keep hS.b PK1.out); (have z0 := keep hS.b ZK.out); (have bl := World.block_lt_of_cell? _ _ z0); clear hS; go_simp; first | done | exact rfl)); (case putrd8 => (first | (simp only [Act.put, List.setIfInBounds_toArray, List.set_cons_zero, List.set_cons_succ]; first | done | exact rfl) | rfl)); (case' nextrd8 => skip))
        (refine' GG.grow_lit (GG.BelL.still) rfl ?wtrd9 ?runrd9 ?putrd9 ?nextrd9; (case wtrd9 => rfl); (case runrd9 => (intro w' hS; (obtain ⟨dn, s, hS⟩ := hS); (have a0 := keep hS.b PI0.out); (have a1 := keep hS.b PI1.out); (have al := World.block_lt_of_cell? _ _ a0); (obtain ⟨k1, k2, k3, k4, k5⟩ := HIX.out); (have b0 := keep hS.b PK0.out); (have b1 := keep hS.b PK1.out); (have z0 := keep hS.b ZK.out); (have bl := World.block_lt_of_cell? _ _ z0); clear hS; go_simp; first | done | exact rfl)); (case putrd9 => (first | (simp only [Act.put, List.setIfInBounds_toArray, List.set_cons_zero, List.set_cons_succ]; first | done | exact rfl) | rfl)); (case' nextrd9 => skip))
        (refine' GG.grow_lit (GG.BelL.still) rfl ?wtrd10 ?runrd10 ?putrd10 ?nextrd10; (case wtrd10 => rfl); (case runrd10 => (intro w' hS; (obtain ⟨dn, s, hS⟩ := hS); (have a0 := keep hS.b PI0.out); (have a1 := keep hS.b PI1.out); (have al := World.block_lt_of_cell? _ _ a0); (obtain ⟨k1, k2, k3, k4, k5⟩ := HIX.out); (have b0 := keep hS.b PK0.out); (have b1 := keep hS.b PK1.out); (have z0 := keep hS.b ZK.out); (have bl := World.block_lt_of_cell? _ _ z0); clear hS; go_simp; first | done | exact rfl)); (case putrd10 => (first | (simp only [Act.put, List.setIfInBounds_toArray, List.set_cons_zero, List.set_cons_succ]; first | done | exact rfl) | rfl)); (case' nextrd10 => skip))
        (refine' GG.grow_lit (GG.BelL.still) rfl ?wtrd11 ?runrd11 ?putrd11 ?nextrd11; (case wtrd11 => rfl); (case runrd11 => (intro w' hS; (obtain ⟨dn, s, hS⟩ := hS); (have a0 := keep hS.b PI0.out); (have a1 := keep hS.b PI1.out); (have al := World.block_lt_of_cell? _ _ a0); (obtain ⟨k1, k2, k3, k4, k5⟩ := HIX.out); (have b0 := keep hS.b PK0.out); (have b1 := keep hS.b PK1.out); (have z0 := keep hS.b ZK.out); (have bl := World.block_lt_of_cell? _ _ z0); clear hS; go_simp; first | done | exact rfl)); (case putrd11 => (first | (simp only [Act.put, List.setIfInBounds_toArray, List.set_cons_zero, List.set_cons_succ]; first | done | exact rfl) | rfl)); (case' nextrd11 => skip))
        (refine' GG.grow_lit (GG.BelL.still) rfl ?wtrd12 ?runrd12 ?putrd12 ?nextrd12; (case wtrd12 => rfl); (case runrd12 => (intro w' hS; (obtain ⟨dn, s, hS⟩ := hS); (have a0 := keep hS.b PI0.out); (have a1 := keep hS.b PI1.out); (have al := World.block_lt_of_cell? _ _ a0); (obtain ⟨k1, k2, k3, k4, k5⟩ := HIX.out); (have b0 := keep hS.b PK0.out); (have b1 := keep hS.b PK1.out); (have z0 := keep hS.b ZK.out); (have bl := World.block_lt_of_cell? _ _ z0); clear hS; go_simp; first | done | exact rfl)); (case putrd12 => (first | (simp only [Act.put, List.setIfInBounds_toArray, List.set_cons_zero, List.set_cons_succ]; first | done | exact rfl) | rfl)); (case' nextrd12 => skip))
        (refine' GG.grow_lit_call (u := .int .i64 KK) rfl Tryz.func23 (by kernel_rfl) rfl rfl ?wtrd13 ?runrd13 ?putrd13 ?nextrd13; (case wtrd13 => rfl); (case runrd13 => (intro dn s w' hS hd H; exact (rkey_is xk yk d w' HSK.out HKK.out).mono (fun e w2 h => ⟨(), h.1, ⟨hS.b.trans (h.2.mono hS.b.size)⟩, h.2, h.2.size⟩))); (case putrd13 => (first | (simp only [Act.put, List.setIfInBounds_toArray, List.set_cons_zero, List.set_cons_succ]; first | done | exact rfl) | rfl)); (case' nextrd13 => skip))
        (refine' GG.grow_lit (GG.BelL.still) rfl ?wtrd14 ?runrd14 ?putrd14 ?nextrd14; (case wtrd14 => rfl); (case runrd14 => (intro w' hS; (obtain ⟨dn, s, hS⟩ := hS); (have a0 := keep hS.b PI0.out); (have a1 := keep hS.b PI1.out); (have al := World.block_lt_of_cell? _ _ a0); (obtain ⟨k1, k2, k3, k4, k5⟩ := HIX.out); (have b0 := keep hS.b PK0.out); (have b1 := keep hS.b PK1.out); (have z0 := keep hS.b ZK.out); (have bl := World.block_lt_of_cell? _ _ z0); clear hS; go_simp; first | done | exact rfl)); (case putrd14 => (first | (simp only [Act.put, List.setIfInBounds_toArray, List.set_cons_zero, List.set_cons_succ]; first | done | exact rfl) | rfl)); (case' nextrd14 => skip))
        (refine' GG.grow_lit (GG.BelL.still) rfl ?wtrd15 ?runrd15 ?putrd15 ?nextrd15; (case wtrd15 => rfl); (case runrd15 => (intro w' hS; (obtain ⟨dn, s, hS⟩ := hS); (have a0 := keep hS.b PI0.out); (have a1 := keep hS.b PI1.out); (have al := World.block_lt_of_cell? _ _ a0); (obtain ⟨k1, k2, k3, k4, k5⟩ := HIX.out); (have b0 := keep hS.b PK0.out); (have b1 := keep hS.b PK1.out); (have z0 := keep hS.b ZK.out); (have bl := World.block_lt_of_cell? _ _ z0); clear hS; go_simp; first | done | exact rfl)); (case putrd15 => (first | (simp only [Act.put, List.setIfInBounds_toArray, List.set_cons_zero, List.set_cons_succ]; first | done | exact rfl) | rfl)); (case' nextrd15 => skip))
        (refine' GG.grow_lit (GG.BelL.still) rfl ?wtrd16 ?runrd16 ?putrd16 ?nextrd16; (case wtrd16 => rfl); (case runrd16 => (intro w' hS; (obtain ⟨dn, s, hS⟩ := hS); (have a0 := keep hS.b PI0.out); (have a1 := keep hS.b PI1.out); (have al := World.block_lt_of_cell? _ _ a0); (obtain ⟨k1, k2, k3, k4, k5⟩ := HIX.out); (have b0 := keep hS.b PK0.out); (have b1 := keep hS.b PK1.out); (have z0 := keep hS.b ZK.out); (have bl := World.block_lt_of_cell? _ _ z0); clear hS; go_simp; first | done | exact rfl)); (case putrd16 => (first | (simp only [Act.put, List.setIfInBounds_toArray, List.set_cons_zero, List.set_cons_succ]; first | done | exact rfl) | rfl)); (case' nextrd16 => skip))
        (refine' GG.grow_lit (GG.BelL.still) rfl ?wtrd17 ?runrd17 ?putrd17 ?nextrd17; (case wtrd17 => rfl); (case runrd17 => (intro w' hS; (obtain ⟨dn, s, hS⟩ := hS); (have a0 := keep hS.b PI0.out); (have a1 := keep hS.b PI1.out); (have al := World.block_lt_of_cell? _ _ a0); (obtain ⟨k1, k2, k3, k4, k5⟩ := HIX.out); (have b0 := keep hS.b PK0.out); (have b1 := keep hS.b PK1.out); (have z0 := keep hS.b ZK.out); (have bl := World.block_lt_of_cell? _ _ z0); clear hS; go_simp; first | done | exact rfl)); (case putrd17 => (first | (simp only [Act.put, List.setIfInBounds_toArray, List.set_cons_zero, List.set_cons_succ]; first | done | exact rfl) | rfl)); (case' nextrd17 => skip))
        (refine' GG.grow_lit (GG.BelL.still) rfl ?wtrd18 ?runrd18 ?putrd18 ?nextrd18; (case wtrd18 => rfl); (case runrd18 => (intro w' hS; (obtain ⟨dn, s, hS⟩ := hS); (have a0 := keep hS.b PI0.out); (have a1 := keep hS.b PI1.out); (have al := World.block_lt_of_cell? _ _ a0); (obtain ⟨k1, k2, k3, k4, k5⟩ := HIX.out); (have b0 := keep hS.b PK0.out); (have b1 := keep hS.b PK1.out); (have z0 := keep hS.b ZK.out); (have bl := World.block_lt_of_cell? _ _ z0); clear hS; go_simp; first | done | exact rfl)); (case putrd18 => (first | (simp only [Act.put, List.setIfInBounds_toArray, List.set_cons_zero, List.set_cons_succ]; first | done | exact rfl) | rfl)); (case' nextrd18 => skip))
        (refine' GG.grow_lit_call (u := .int .i64 KI) rfl Tryz.func23 (by kernel_rfl) rfl rfl ?wtrd19 ?runrd19 ?putrd19 ?nextrd19; (case wtrd19 => rfl); (case runrd19 => (intro dn s w' hS hd H; exact (rkey_is xi yi d w' HSI.out HKI.out).mono (fun e w2 h => ⟨(), h.1, ⟨hS.b.trans (h.2.mono hS.b.size)⟩, h.2, h.2.size⟩))); (case putrd19 => (first | (simp only [Act.put, List.setIfInBounds_toArray, List.set_cons_zero, List.set_cons_succ]; first | done | exact rfl) | rfl)); (case' nextrd19 => skip))
        (refine' GG.grow_lit (GG.BelL.still) rfl ?wtrd20 ?runrd20 ?putrd20 ?nextrd20; (case wtrd20 => rfl); (case runrd20 => (intro w' hS; (obtain ⟨dn, s, hS⟩ := hS); (have a0 := keep hS.b PI0.out); (have a1 := keep hS.b PI1.out); (have al := World.block_lt_of_cell? _ _ a0); (obtain ⟨k1, k2, k3, k4, k5⟩ := HIX.out); (have b0 := keep hS.b PK0.out); (have b1 := keep hS.b PK1.out); (have z0 := keep hS.b ZK.out); (have bl := World.block_lt_of_cell? _ _ z0); clear hS; go_simp; first | done | exact rfl)); (case putrd20 => (first | (simp only [Act.put, List.setIfInBounds_toArray, List.set_cons_zero, List.set_cons_succ]; first | done | exact rfl) | rfl)); (case' nextrd20 => skip))
        (refine' GG.grow_lit (GG.BelL.still) rfl ?wtrd21 ?runrd21 ?putrd21 ?nextrd21; (case wtrd21 => rfl); (case runrd21 => (intro w' hS; (obtain ⟨dn, s, hS⟩ := hS); (have a0 := keep hS.b PI0.out); (have a1 := keep hS.b PI1.out); (have al := World.block_lt_of_cell? _ _ a0); (obtain ⟨k1, k2, k3, k4, k5⟩ := HIX.out); (have b0 := keep hS.b PK0.out); (have b1 := keep hS.b PK1.out); (have z0 := keep hS.b ZK.out); (have bl := World.block_lt_of_cell? _ _ z0); clear hS; go_simp; first | done | exact rfl)); (case putrd21 => (first | (simp only [Act.put, List.setIfInBounds_toArray, List.set_cons_zero, List.set_cons_succ]; first | done | exact rfl) | rfl)); (case' nextrd21 => skip))
        intro dn s w1 hS _ _
        have hb := hS.b
        have HBX := Lib.hid (bOn6 HBW.out hb)
        have HBI := Lib.hid (bOn6 HBK.out hb)
        have HZ1 := Lib.hid (HZK.out.below hb)
        clear hS DS0 hb
        obtain ⟨q, hq⟩ : ∃ q, some (⟨zb, zo, none⟩ : Addr) = q := ⟨_, rfl⟩
        rw [hq] at HZ1 ⊢
        clear hcmp dcmp hq
        go_wp2_with fail
        have DS1 : Hid (GG.Ap3 4 7 11 w1 (fun _ => false) 0 w1.drew) := Lib.hid ⟨fun _ => rfl, fun _ => by omega, fun _ => by omega, by omega, (Below.refl _ _).drew⟩
        have HZL : Hid ((zN o).length = i) := Lib.hid (by rw [zN_len, HOL.out])
        have hz2 : I64s w1 (.slice q (zN o).length c) (zN o) := by rw [HZL.out]; exact HZ1.out
        have HT := Lib.hid (I64s.takeC (k := k) hz2 (by rw [HZL.out]; exact hk))
        have HD := Lib.hid (I64s.dropM (a := k) hz2 (by rw [HZL.out]; exact hk))
        rw [HZL.out] at HD
        have HTL : Hid (((zN o).take k).length = k) := Lib.hid (by rw [List.length_take, HZL.out]; omega)
        have HDL : Hid (((zN o).drop k).length = i - k) := Lib.hid (by rw [List.length_drop, HZL.out])
        have hcap : i ≤ c := by
          obtain ⟨-, -, hc, -⟩ := HZ1.out.capN
          rcases hc with hc | hc
          · exact hc
          · have h2 := HZL.out
            rw [hc] at h2
            simp at h2
            omega
        have hci : (k : Int) ≤ (c : Int) := by omega
        have hii2 : (i : Int) ≤ (c : Int) := by omega
        have hcap2 : k ≤ c := by omega
        have hki9 : (k : Int) ≤ (i : Int) := by omega
        have HNB2 : Hid (((zN o).take k).length + 1 ≤ 100000 ∧ ((zN o).take k ++ [(i : Int)]).length + ((zN o).drop k).length ≤ 100000 ∧ ((zN o).take k).length ≤ 100000 ∧ (zN (o.take k ++ [i] ++ o.drop k)).length = i + 1) := Lib.hid (by
          have h9 := HNB.out
          have h8 := HI.out
          have h7 := HOL.out
          refine ⟨by rw [HTL.out]; omega, by rw [List.length_append, HTL.out, HDL.out]; simp; omega, by rw [HTL.out]; omega, ?_⟩
          rw [zN_len, List.length_append, List.length_append, List.length_take, List.length_drop]
          simp
          omega)
        clear hz2
        refine' GG.wp_thenL _ 12 (GG.Ap3 4 7 11 w1) [[], [], [], [1, 2], [0, 1, 2, 3], [], [5], [0, 1, 2, 3, 4, 5, 6], [], [], [8, 9], [0, 1, 2, 3, 4, 5, 6, 7, 8, 9, 10]] (GG.Fact.prop (Rl := GG.Rl3) _ _ :: GG.Fact.lit (Rl := GG.Rl3) _ :: GG.Fact.lit (Rl := GG.Rl3) _ :: GG.Fact.lit (Rl := GG.Rl3) _ :: GG.Fact.prop (Rl := GG.Rl3) _ _ :: GG.Fact.lit (Rl := GG.Rl3) _ :: GG.Fact.prop (Rl := GG.Rl3) _ _ :: GG.Fact.prop (Rl := GG.Rl3) _ _ :: GG.Fact.lit (Rl := GG.Rl3) _ :: GG.Fact.lit (Rl := GG.Rl3) _ :: GG.Fact.lit (Rl := GG.Rl3) _ :: GG.Fact.prop (Rl := GG.Rl3) _ _ :: []) (by kernel_rfl) rfl (by kernel_rfl) (0) (DS1.out) ?seqre
        case' seqre => skip
        (refine' GG.grow_any_op (p := (AtMo 0 (EmpI w1))) (hp := AtMo.st (by decide) (EmpI.stab _)) rfl ?wtre0 ?runre0 ?putre0 ?nextre0; (case wtre0 => rfl); (case runre0 => (intro dn s w' hS hd H; (have hb := below_alloc1 (w := w') (.cells #[] 3)); refine ⟨.slice (some ⟨w'.heap.size, 0, none⟩) 0 0, s, w'.alloc (.cells #[] 3), ?_, fun _ => ⟨_, rfl, Blk.new _ _ _ _ rfl, hS.b.size⟩, (hS.step (by decide) (by decide) (by decide)).old hb, ⟨Nat.le_refl _, fun _ => hb⟩, hb.size⟩; (clear hS H hd hb; go_simp))); (case putre0 => (intro v; (simp only [Act.put, List.setIfInBounds_toArray, List.set_cons_zero, List.set_cons_succ]; first | done | exact rfl))); (case' nextre0 => intro v0))
        (refine' GG.grow_lit (GG.Ap3.still (by decide) (by decide) (by decide)) rfl ?wtre1 ?runre1 ?putre1 ?nextre1; (case wtre1 => rfl); (case runre1 => (intro w' hS; (obtain ⟨dn, s, hS⟩ := hS); clear hS; go_simp; first | done | exact rfl)); (case putre1 => (first | (simp only [Act.put, List.setIfInBounds_toArray, List.set_cons_zero, List.set_cons_succ]; first | done | exact rfl) | rfl)); (case' nextre1 => skip))
        (refine' GG.grow_lit (GG.Ap3.still (by decide) (by decide) (by decide)) rfl ?wtre2 ?runre2 ?putre2 ?nextre2; (case wtre2 => rfl); (case runre2 => (intro w' hS; (obtain ⟨dn, s, hS⟩ := hS); clear hS; go_simp; first | done | exact rfl)); (case putre2 => (first | (simp only [Act.put, List.setIfInBounds_toArray, List.set_cons_zero, List.set_cons_succ]; first | done | exact rfl) | rfl)); (case' nextre2 => skip))
        (refine' GG.grow_write (u := .slice q k c) rfl ?wtre3 ?runre3 ?putre3 ?nextre3; (case wtre3 => rfl); (case runre3 => (intro dn s w' hS hd H; refine ⟨s, w', ?_, hS.step (by decide) (by decide) (by decide), ⟨Nat.le_refl _, fun _ => Below.refl _ _⟩, Nat.le_refl _⟩; clear H hS hd; go_simp)); (case putre3 => (first | (simp only [Act.put, List.setIfInBounds_toArray, List.set_cons_zero, List.set_cons_succ]; first | done | exact rfl) | rfl)); (case' nextre3 => skip))
        (refine' GG.grow_any_op (p := (AtSt 1 (OwnI w1 ((zN o).take k)))) (hp := AtSt.st (OwnI.stab _ _)) rfl ?wtre4 ?runre4 ?putre4 ?nextre4; (case wtre4 => rfl); (case runre4 => (intro dn s w' hS hd H; (obtain rfl : s = 0 := hS.h0 hd); (obtain ⟨g, e0, kg, hgb⟩ := (show AtMo 0 (EmpI w1) v0 0 w' from H 0 (by decide)) (Nat.le_refl _)); (have ht := HT.out.below hS.b); (obtain ⟨q', c', w7, hr, ho, hb⟩ := copyOI w' _ _ ht HNB2.out.2.2.1 g w1.heap.size kg hgb); subst e0; exact ⟨_, 1, w7, GG.exec_append (.tmp 38) (.tmp 41) 39 rfl rfl rfl hr, ⟨Nat.le_refl _, fun _ => ⟨q', c', rfl, ho⟩⟩, hS.one hb, ⟨by decide, fun _ => hb⟩, hb.size⟩)); (case putre4 => (intro v; (simp only [Act.put, List.setIfInBounds_toArray, List.set_cons_zero, List.set_cons_succ]; first | done | exact rfl))); (case' nextre4 => intro v4))
        (refine' GG.grow_lit (GG.Ap3.still (by decide) (by decide) (by decide)) rfl ?wtre5 ?runre5 ?putre5 ?nextre5; (case wtre5 => rfl); (case runre5 => (intro w' hS; (obtain ⟨dn, s, hS⟩ := hS); clear hS; go_simp; first | done | exact rfl)); (case putre5 => (first | (simp only [Act.put, List.setIfInBounds_toArray, List.set_cons_zero, List.set_cons_succ]; first | done | exact rfl) | rfl)); (case' nextre5 => skip))
        (refine' GG.grow_any_op (p := (AtMo 1 (OneI (i : Int)))) (hp := AtMo.st (by decide) (OneI.stab _)) rfl ?wtre6 ?runre6 ?putre6 ?nextre6; (case wtre6 => rfl); (case runre6 => (intro dn s w' hS hd H; (have hb := below_alloc1 (w := w') (.cells #[.int .i64 (i : Int)] 3)); refine ⟨.slice (some ⟨w'.heap.size, 0, none⟩) 1 1, s, w'.alloc (.cells #[.int .i64 (i : Int)] 3), ?_, fun _ => ⟨_, rfl, Blk.new _ _ _ _ rfl⟩, (hS.step (by decide) (by decide) (by decide)).old hb, ⟨Nat.le_refl _, fun _ => hb⟩, hb.size⟩; (clear hS H hd hb; go_simp))); (case putre6 => (intro v; (simp only [Act.put, List.setIfInBounds_toArray, List.set_cons_zero, List.set_cons_succ]; first | done | exact rfl))); (case' nextre6 => intro v6))
        (refine' GG.grow_any_op (p := (AtSt 2 (OwnI w1 ((zN o).take k ++ [(i : Int)])))) (hp := AtSt.st (OwnI.stab _ _)) rfl ?wtre7 ?runre7 ?putre7 ?nextre7; (case wtre7 => rfl); (case runre7 => (intro dn s w' hS hd H; (obtain ⟨a1, a2⟩ := (show AtSt 1 (OwnI w1 ((zN o).take k)) v4 s w' from H 4 (by decide))); (obtain rfl : s = 1 := (by have := hS.h1 hd; omega)); (obtain ⟨q0, c0, e0, ho⟩ := a2 rfl); (obtain ⟨g, e1, kg⟩ := (show AtMo 1 (OneI (i : Int)) v6 1 w' from H 6 (by decide)) (Nat.le_refl _)); (obtain ⟨q', c', w7, hr, ho2, hb, hz⟩ := appOI ho (show I64s w' (.slice (some ⟨g, 0, none⟩) 1 1) [(i : Int)] from one_i64s kg) HNB2.out.1 hS.b.size); subst e0; subst e1; exact ⟨_, 2, w7, GG.exec_append (.tmp 42) (.tmp 44) 39 rfl rfl rfl hr, ⟨Nat.le_refl _, fun _ => ⟨q', c', rfl, ho2⟩⟩, hS.two rfl (by decide) (hS.b.trans hb), ⟨by decide, fun h => by omega⟩, hz⟩)); (case putre7 => (intro v; (simp only [Act.put, List.setIfInBounds_toArray, List.set_cons_zero, List.set_cons_succ]; first | done | exact rfl))); (case' nextre7 => intro v7))
        (refine' GG.grow_lit (GG.Ap3.still (by decide) (by decide) (by decide)) rfl ?wtre8 ?runre8 ?putre8 ?nextre8; (case wtre8 => rfl); (case runre8 => (intro w' hS; (obtain ⟨dn, s, hS⟩ := hS); clear hS; go_simp; first | done | exact rfl)); (case putre8 => (first | (simp only [Act.put, List.setIfInBounds_toArray, List.set_cons_zero, List.set_cons_succ]; first | done | exact rfl) | rfl)); (case' nextre8 => skip))
        (refine' GG.grow_lit (GG.Ap3.still (by decide) (by decide) (by decide)) rfl ?wtre9 ?runre9 ?putre9 ?nextre9; (case wtre9 => rfl); (case runre9 => (intro w' hS; (obtain ⟨dn, s, hS⟩ := hS); clear hS; go_simp; first | done | exact rfl)); (case putre9 => (first | (simp only [Act.put, List.setIfInBounds_toArray, List.set_cons_zero, List.set_cons_succ]; first | done | exact rfl) | rfl)); (case' nextre9 => skip))
        (refine' GG.grow_write (u := .slice (movedS q c k) (i - k) (c - k)) rfl ?wtre10 ?runre10 ?putre10 ?nextre10; (case wtre10 => rfl); (case runre10 => (intro dn s w' hS hd H; refine ⟨s, w', ?_, hS.step (by decide) (by decide) (by decide), ⟨Nat.le_refl _, fun _ => Below.refl _ _⟩, Nat.le_refl _⟩; clear H hS hd; go_simp; rfl)); (case putre10 => (first | (simp only [Act.put, List.setIfInBounds_toArray, List.set_cons_zero, List.set_cons_succ]; first | done | exact rfl) | rfl)); (case' nextre10 => skip))
        (refine' GG.grow_any_op (p := (AtSt 3 (OwnI w1 ((zN o).take k ++ [(i : Int)] ++ (zN o).drop k)))) (hp := AtSt.st (OwnI.stab _ _)) rfl ?wtre11 ?runre11 ?putre11 ?nextre11; (case wtre11 => rfl); (case runre11 => (intro dn s w' hS hd H; (obtain ⟨a1, a2⟩ := (show AtSt 2 (OwnI w1 ((zN o).take k ++ [(i : Int)])) v7 s w' from H 7 (by decide))); (obtain rfl : s = 2 := (by have := hS.h2 hd; omega)); (obtain ⟨q0, c0, e0, ho⟩ := a2 rfl); (have hd2 := HD.out.below hS.b); (obtain ⟨q', c', w7, hr, ho2, hb, hz⟩ := appOI ho hd2 HNB2.out.2.1 hS.b.size); subst e0; exact ⟨_, 3, w7, GG.exec_append (.tmp 45) (.tmp 48) 39 rfl rfl rfl hr, ⟨Nat.le_refl _, fun _ => ⟨q', c', rfl, ho2⟩⟩, hS.three rfl (by decide) (by decide) (hS.b.trans hb), ⟨by decide, fun h => by omega⟩, hz⟩)); (case putre11 => (intro v; (simp only [Act.put, List.setIfInBounds_toArray, List.set_cons_zero, List.set_cons_succ]; first | done | exact rfl))); (case' nextre11 => intro v11))
        intro dn s w8 hS _ hk8
        obtain ⟨h3, h4⟩ : AtSt 3 (OwnI w1 ((zN o).take k ++ [(i : Int)] ++ (zN o).drop k)) v11 s w8 := hk8 11 (by decide)
        obtain ⟨q9, c9, rfl, ho9⟩ := h4 (by have := hS.h3; omega)
        rw [zN_put, HNB2.out.2.2.2] at ho9 ⊢
        have HZ9 : Hid (I64s w8 (.slice q9 (i + 1) c9) (zN (o.take k ++ [i] ++ o.drop k))) := Lib.hid (ints_of_owns ho9 (by rw [HNB2.out.2.2.2]; have := HI.out; have := HNB.out; omega))
        have HB9 := Lib.hid (bOn6 HBX.out hS.b)
        have hlt := HI.out
        clear hk8 hS ho9 h3 h4 hcap hci hii2 hcap2
        refine wpAny_ready (rs := [12]) (by kernel_rfl) (by simp) (AllReady.cons rfl (fun K hK => ?_) AllReady.nil)
        go_simp
        refine hK _ _ ?_
        clear hK K
        refine wpAny_done (by kernel_rfl) ?_ _
        go_wp2_with fail
        go_roundw
        case rel => exact ⟨i + 1, _, q9, c9, by rw [HN.out]; exact hlt, by go_num, by simp, HPUT.out, HZ9.out, HB9.out⟩
        case measure => simp [intOf]; omega
/-! ### Ends -/
def EmpU (W : World) (v : Value) (_ : Unit) (w : World) : Prop := EmpI W v w
theorem EmpU.st {W : World} (v : Value) (s : Unit) (w : World) (s' : Unit) (w' : World) (h : EmpU W v s w) (hr : GG.RlL s w s' w') : EmpU W v s' w' := EmpI.stab W v w w' h hr
set_option maxHeartbeats 4000000 in
set_option maxRecDepth 100000 in
theorem rends_is {w : World} {v : Value} {l : List Int} (h : I64s w v l) (hl : l.length ≤ 100000) :
    Calls Tryz.prog 10 #[v] w (EndsPost w l) := by
  obtain ⟨q, c, rfl⟩ := h.shape
  obtain ⟨-, -, hc, -⟩ := h.capN
  obtain ⟨k, hk⟩ : ∃ k, endN l.length = k := ⟨_, rfl⟩
  have hkl := (endN_le l.length).1
  have hck : l.length ≤ c := by
    rcases hc with hc | rfl
    · exact hc
    · simp
  rw [hk] at hkl
  have HK := Lib.hid hk
  have HT := Lib.hid (h.takeC (k := k) hkl)
  have HD := Lib.hid (h.dropM (a := l.length - k) (by omega))
  obtain ⟨J, hJ⟩ : ∃ J, l.length - k = J := ⟨_, rfl⟩
  rw [hJ, show l.length - J = k from by omega] at HD
  have hw : IntKind.i64.wrap ((l.length : Int) - (k : Int)) = (J : Int) := by
    rw [show (l.length : Int) - (k : Int) = (J : Int) from by omega]
    exact IntWalk.i64_in _ (by omega)
  have hs1 : (J : Int) ≤ (l.length : Int) := by omega
  have hs2 : l.length - J = k := by omega
  have hs3 : J ≤ l.length := by omega
  have hs4 : (k : Int) ≤ (c : Int) := by omega
  have hs5 : k ≤ c := by omega
  have HJ := Lib.hid hJ
  have HDL : Hid ((l.drop J).length = k) := Lib.hid (by rw [List.length_drop]; omega)
  have HTL : Hid ((l.take k).length = k) := Lib.hid (by rw [List.length_take]; omega)
  have HLL : Hid (k ≤ 100000) := Lib.hid (by omega)
  have DS0 : Hid (GG.BelL w (fun _ => false) () w.drew) := Lib.hid ⟨(Below.refl _ _).drew⟩
  clear hk h hc hJ
  go_enter Tryz.func10, Tryz.ntmps10
  go_wp2_with fail
  refine (rshare_is _ _ (by omega) HK.out).mono ?_
  rintro e w1 ⟨rfl, rfl⟩
  go_wp2_with fail
  refine' GG.wp_growL _ (GG.BelL w) [[], [], [], [1, 2], [0, 1, 2, 3], [], [], [], [], [7, 8], [6, 7, 8, 9], [0, 1, 2, 3, 4, 5, 6, 7, 8, 9, 10], [0, 1, 2, 3, 4, 5, 6, 7, 8, 9, 10, 11], [0, 1, 2, 3, 4, 5, 6, 7, 8, 9, 10, 11, 12]] (GG.Fact.prop (Rl := GG.RlL) _ _ :: GG.Fact.lit (Rl := GG.RlL) _ :: GG.Fact.lit (Rl := GG.RlL) _ :: GG.Fact.lit (Rl := GG.RlL) _ :: GG.Fact.prop (Rl := GG.RlL) _ _ :: GG.Fact.prop (Rl := GG.RlL) _ _ :: GG.Fact.lit (Rl := GG.RlL) _ :: GG.Fact.lit (Rl := GG.RlL) _ :: GG.Fact.lit (Rl := GG.RlL) _ :: GG.Fact.lit (Rl := GG.RlL) _ :: GG.Fact.lit (Rl := GG.RlL) _ :: GG.Fact.prop (Rl := GG.RlL) _ _ :: GG.Fact.prop (Rl := GG.RlL) _ _ :: GG.Fact.prop (Rl := GG.RlL) _ _ :: []) (by kernel_rfl) rfl (by kernel_rfl) (()) (DS0.out) ?seqen
  case' seqen => skip
  (refine' GG.grow_any_op (p := (EmpU w)) (hp := EmpU.st) rfl ?wten0 ?runen0 ?puten0 ?nexten0; (case wten0 => rfl); (case runen0 => (intro dn s w' hS hd H; (have hb := below_alloc1 (w := w') (.cells #[] 3)); refine ⟨.slice (some ⟨w'.heap.size, 0, none⟩) 0 0, (), w'.alloc (.cells #[] 3), ?_, (show EmpI w _ _ from ⟨_, rfl, Blk.new _ _ _ _ rfl, hS.b.size⟩), ⟨hS.b.trans (hb.mono hS.b.size)⟩, hb, hb.size⟩; (clear hS H hd hb; go_simp))); (case puten0 => (intro v; (simp only [Act.put, List.setIfInBounds_toArray, List.set_cons_zero, List.set_cons_succ]; first | done | exact rfl))); (case' nexten0 => intro v0))
  (refine' GG.grow_lit (GG.BelL.still) rfl ?wten1 ?runen1 ?puten1 ?nexten1; (case wten1 => rfl); (case runen1 => (intro w' hS; (obtain ⟨dn, s, hS⟩ := hS); clear hS; go_simp; first | done | exact rfl)); (case puten1 => (first | (simp only [Act.put, List.setIfInBounds_toArray, List.set_cons_zero, List.set_cons_succ]; first | done | exact rfl) | rfl)); (case' nexten1 => skip))
  (refine' GG.grow_lit (GG.BelL.still) rfl ?wten2 ?runen2 ?puten2 ?nexten2; (case wten2 => rfl); (case runen2 => (intro w' hS; (obtain ⟨dn, s, hS⟩ := hS); clear hS; go_simp; first | done | exact rfl)); (case puten2 => (first | (simp only [Act.put, List.setIfInBounds_toArray, List.set_cons_zero, List.set_cons_succ]; first | done | exact rfl) | rfl)); (case' nexten2 => skip))
  (refine' GG.grow_write (u := .slice q k c) rfl ?wten3 ?runen3 ?puten3 ?nexten3; (case wten3 => rfl); (case runen3 => (intro dn s w' hS hd H; refine ⟨(), w', ?_, ⟨hS.b⟩, Below.refl _ _, Nat.le_refl _⟩; clear H hS hd; go_simp)); (case puten3 => (first | (simp only [Act.put, List.setIfInBounds_toArray, List.set_cons_zero, List.set_cons_succ]; first | done | exact rfl) | rfl)); (case' nexten3 => skip))
  (refine' GG.grow_any_op (p := (RowV (l.take k))) (hp := RowV.st) rfl ?wten4 ?runen4 ?puten4 ?nexten4; (case wten4 => rfl); (case runen4 => (intro dn s w' hS hd H; (obtain ⟨g, e0, kg, hgb⟩ := (show EmpI w v0 w' from H 0 (by decide))); (obtain ⟨q', c', w7, hr, ho, hb⟩ := copyOI w' _ _ (HT.out.below hS.b) (by rw [HTL.out]; exact HLL.out) g w.heap.size kg hgb); subst e0; exact ⟨_, (), w7, GG.exec_append (.tmp 10) (.tmp 13) 39 rfl rfl rfl hr, ⟨q', c', rfl, ints_of_owns ho (by rw [HTL.out]; have := HLL.out; omega)⟩, ⟨hS.b.trans (hb.mono hS.b.size)⟩, hb, hb.size⟩)); (case puten4 => (intro v; (simp only [Act.put, List.setIfInBounds_toArray, List.set_cons_zero, List.set_cons_succ]; first | done | exact rfl))); (case' nexten4 => intro v4))
  (refine' GG.grow_any_op (p := (EmpU w)) (hp := EmpU.st) rfl ?wten5 ?runen5 ?puten5 ?nexten5; (case wten5 => rfl); (case runen5 => (intro dn s w' hS hd H; (have hb := below_alloc1 (w := w') (.cells #[] 3)); refine ⟨.slice (some ⟨w'.heap.size, 0, none⟩) 0 0, (), w'.alloc (.cells #[] 3), ?_, (show EmpI w _ _ from ⟨_, rfl, Blk.new _ _ _ _ rfl, hS.b.size⟩), ⟨hS.b.trans (hb.mono hS.b.size)⟩, hb, hb.size⟩; (clear hS H hd hb; go_simp))); (case puten5 => (intro v; (simp only [Act.put, List.setIfInBounds_toArray, List.set_cons_zero, List.set_cons_succ]; first | done | exact rfl))); (case' nexten5 => intro v5))
  (refine' GG.grow_lit (GG.BelL.still) rfl ?wten6 ?runen6 ?puten6 ?nexten6; (case wten6 => rfl); (case runen6 => (intro w' hS; (obtain ⟨dn, s, hS⟩ := hS); clear hS; go_simp; first | done | exact rfl)); (case puten6 => (first | (simp only [Act.put, List.setIfInBounds_toArray, List.set_cons_zero, List.set_cons_succ]; first | done | exact rfl) | rfl)); (case' nexten6 => skip))
  (refine' GG.grow_lit (GG.BelL.still) rfl ?wten7 ?runen7 ?puten7 ?nexten7; (case wten7 => rfl); (case runen7 => (intro w' hS; (obtain ⟨dn, s, hS⟩ := hS); clear hS; go_simp; first | done | exact rfl)); (case puten7 => (first | (simp only [Act.put, List.setIfInBounds_toArray, List.set_cons_zero, List.set_cons_succ]; first | done | exact rfl) | rfl)); (case' nexten7 => skip))
  (refine' GG.grow_lit (GG.BelL.still) rfl ?wten8 ?runen8 ?puten8 ?nexten8; (case wten8 => rfl); (case runen8 => (intro w' hS; (obtain ⟨dn, s, hS⟩ := hS); clear hS; go_simp; first | done | exact rfl)); (case puten8 => (first | (simp only [Act.put, List.setIfInBounds_toArray, List.set_cons_zero, List.set_cons_succ]; first | done | exact rfl) | rfl)); (case' nexten8 => skip))
  (refine' GG.grow_lit (GG.BelL.still) rfl ?wten9 ?runen9 ?puten9 ?nexten9; (case wten9 => rfl); (case runen9 => (intro w' hS; (obtain ⟨dn, s, hS⟩ := hS); clear hS; go_simp; first | done | exact rfl)); (case puten9 => (first | (simp only [Act.put, List.setIfInBounds_toArray, List.set_cons_zero, List.set_cons_succ]; first | done | exact rfl) | rfl)); (case' nexten9 => skip))
  (refine' GG.grow_write (u := .slice (movedS q c J) k (c - J)) rfl ?wten10 ?runen10 ?puten10 ?nexten10; (case wten10 => rfl); (case runen10 => (intro dn s w' hS hd H; refine ⟨(), w', ?_, ⟨hS.b⟩, Below.refl _ _, Nat.le_refl _⟩; clear H hS hd; go_simp; rfl)); (case puten10 => (first | (simp only [Act.put, List.setIfInBounds_toArray, List.set_cons_zero, List.set_cons_succ]; first | done | exact rfl) | rfl)); (case' nexten10 => skip))
  (refine' GG.grow_any_op (p := (RowV (l.drop J))) (hp := RowV.st) rfl ?wten11 ?runen11 ?puten11 ?nexten11; (case wten11 => rfl); (case runen11 => (intro dn s w' hS hd H; (obtain ⟨g, e0, kg, hgb⟩ := (show EmpI w v5 w' from H 5 (by decide))); (obtain ⟨q', c', w7, hr, ho, hb⟩ := copyOI w' _ _ (HD.out.below hS.b) (by rw [HDL.out]; exact HLL.out) g w.heap.size kg hgb); subst e0; exact ⟨_, (), w7, GG.exec_append (.tmp 15) (.tmp 20) 39 rfl rfl rfl hr, ⟨q', c', rfl, ints_of_owns ho (by rw [HDL.out]; have := HLL.out; omega)⟩, ⟨hS.b.trans (hb.mono hS.b.size)⟩, hb, hb.size⟩)); (case puten11 => (intro v; (simp only [Act.put, List.setIfInBounds_toArray, List.set_cons_zero, List.set_cons_succ]; first | done | exact rfl))); (case' nexten11 => intro v11))
  (refine' GG.grow_any_op (p := (RowV (l.take k))) (hp := RowV.st) rfl ?wten12 ?runen12 ?puten12 ?nexten12; (case wten12 => rfl); (case runen12 => (intro dn s w' hS hd H; (have h2 : RowV (l.take k) v4 () w' := H 4 (by decide)); refine ⟨v4, (), w', ?_, h2, ⟨hS.b⟩, Below.refl _ _, Nat.le_refl _⟩; (clear H hS h2 hd; go_simp))); (case puten12 => (intro v; (simp only [Act.put, List.setIfInBounds_toArray, List.set_cons_zero, List.set_cons_succ]; first | done | exact rfl))); (case' nexten12 => intro v12))
  (refine' GG.grow_any_op (p := (RowV (l.drop J))) (hp := RowV.st) rfl ?wten13 ?runen13 ?puten13 ?nexten13; (case wten13 => rfl); (case runen13 => (intro dn s w' hS hd H; (have h2 : RowV (l.drop J) v11 () w' := H 11 (by decide)); refine ⟨v11, (), w', ?_, h2, ⟨hS.b⟩, Below.refl _ _, Nat.le_refl _⟩; (clear H hS h2 hd; go_simp))); (case puten13 => (intro v; (simp only [Act.put, List.setIfInBounds_toArray, List.set_cons_zero, List.set_cons_succ]; first | done | exact rfl))); (case' nexten13 => intro v13))
  intro dn s w8 hS _ hk
  obtain ⟨q1, c1, rfl, h1⟩ : RowV (l.take k) v12 () w8 := hk 12 (by decide)
  obtain ⟨q2, c2, rfl, h2⟩ : RowV (l.drop J) v13 () w8 := hk 13 (by decide)
  rw [HTL.out] at h1 ⊢
  rw [HDL.out] at h2 ⊢
  have HP : Hid (EndsPost w l (.returned (.tuple #[.slice q1 k c1, .slice q2 k c2])) w8) := Lib.hid (by
    unfold EndsPost
    rw [HK.out, HJ.out]
    exact ⟨q1, c1, q2, c2, rfl, h1, h2, hS.b⟩)
  clear hk hS h1 h2 DS0
  go_wp2_with fail
  exact bodyPost_ret (v := .tuple #[.slice q1 k c1, .slice q2 k c2]) (by simp [results, Tryz.results10, go_sem]) rfl HP.out
end Go.Proofs.YthfljimgpcignaaGreatDoor
