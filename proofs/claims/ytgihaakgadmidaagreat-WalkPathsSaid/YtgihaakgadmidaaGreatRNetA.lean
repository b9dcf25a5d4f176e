/-
  The document's nets: which arcs end, begin, at a vertex; a number's place in a row; is it an arc?
-/
import Derived.Test.YtgihaakgadmidaaGreatA1
import Derived.Test.YtgihaakgadmidaaGreatCarry
import Derived.Lib.Hide
import Derived.WalkSmall
namespace Go.Proofs.YtgihaakgadmidaaGreat
open Go.RowKit

/-- What a call answers that tells a row of numbers. -/
def IntsPost (l : List Int) (w : World) (ev : Ending) (w' : World) : Prop := ∃ v, ev = .returned v ∧ I64s w' v l ∧ Below w.heap.size w w'
/-- A net's value. -/
abbrev netVal (n : NetD) (vq aq tq : Option Addr) (vc ac tc : Nat) : Value := .agg #[.slice vq n.v.length vc, .slice aq n.a.length ac, .slice tq n.t.length tc]
theorem below_new {w : World} (a : Obj) : Below w.heap.size w (w.alloc a) := (Below.refl _ _).alloc (Nat.le_refl _) _

theorem infoInt : (Tryz.prog.info? 3).map (fun i => (i.zero, i.size, i.bytes)) = some (some (.int .i64 0), 1, 8) := by kernel_rfl
theorem own_ne {w : World} {base : Nat} {e : TypeId} {size : Nat} {v : Value} {n : Nat} {xs : List Value} (h : w.ownsRow base e size v n xs) {b : Nat} (hb : b < base) : v.ownBlock ≠ some b := by
  rcases h.2 with ⟨rfl, _⟩ | ⟨g, cap, cur, rfl, hg, _⟩
  · simp [Value.ownBlock]
  · simp only [Value.ownBlock, ne_eq, Option.some.injEq]; omega
theorem own_ge {w : World} {base : Nat} {e : TypeId} {size : Nat} {v : Value} {n : Nat} {xs : List Value} (h : w.ownsRow base e size v n xs) : ∀ g, v.ownBlock = some g → base ≤ g := by
  intro g hg
  rcases h.2 with ⟨rfl, _⟩ | ⟨g', cap, cur, rfl, hb, _⟩
  · simp [Value.ownBlock] at hg
  · simp only [Value.ownBlock, Option.some.injEq] at hg; omega
theorem Blk.grownO {w w' : World} {b : Nat} {cs : Array Value} {t : TypeId} {r : Option Nat} (h : Blk w b cs t) (hg : w.grownBy w' r) (hne : r ≠ some b) : Blk w' b cs t := (hg.block b h.lt hne.symm).trans h
theorem below_grownO {w W0 wr : World} {r : Option Nat} (hb : Below w.heap.size w W0) (hg : W0.grownBy wr r) (h : ∀ g, r = some g → w.heap.size ≤ g) : Below w.heap.size w wr :=
  hb.grown hg hb.size (fun g hr => h g (by simpa using hr))
theorem ints_of_owns {w : World} {base : Nat} {e : TypeId} {v : Value} {n : Nat} {l : List Int} (h : w.ownsRow base e 1 v n (l.map (Value.int .i64))) (hl : l.length ≤ 9223372036854775807) : I64s w v l := by
  have hn : n = l.length := by have := h.1; simp at this; omega
  subst hn
  rcases h.2 with ⟨rfl, e⟩ | ⟨g, cap, cur, rfl, _, _, hnc, hcm, _, _⟩
  · have : l = [] := List.length_eq_zero_iff.1 e
    subst this
    exact Or.inl ⟨rfl, none, 0, rfl, fun _ => rfl⟩
  · refine Or.inr ⟨hl, g, 0, cap, hnc, by unfold maxLen at hcm; omega, rfl, fun i hi => ?_⟩
    rw [Nat.zero_add, h.cellAt i (by omega)]
    simp [hi]
/-- One more is looked at: kept, or not. -/
theorem idx_take {p : Tri → Bool} {l : List Tri} {k : Nat} (h : k < l.length) : idxFrom p 0 (l.take (k + 1)) = idxFrom p 0 (l.take k) ++ (if p l[k] = true then [(k : Int)] else []) := by
  rw [take_snoc l k h, idxFrom_snoc, List.length_take, Nat.min_eq_left (by omega), Int.zero_add]
theorem idx_le {p : Tri → Bool} {l : List Tri} {k : Nat} (h : k ≤ l.length) : (idxFrom p 0 (l.take k)).length ≤ k := by
  have := idxFrom_length p 0 (l.take k)
  rw [List.length_take] at this
  omega

set_option maxHeartbeats 2000000 in
set_option maxRecDepth 100000 in
theorem rins_any (n : NetD) (vq aq tq : Option Addr) (vc ac tc : Nat) (v : Int) (w : World) (hs : n.a.length ≤ 100000) (h : NetS w n vq aq tq vc ac tc) :
    Calls Tryz.prog 58 #[netVal n vq aq tq vc ac tc, .int .i64 v] w (IntsPost (insL n.a v) w) := by
  obtain ⟨i0, hi, hz0, hz1, hz2⟩ := info_parts infoInt
  obtain ⟨p, ep⟩ : ∃ p : Tri → Bool, p = fun x => decide (x.2.1 = v) := ⟨_, rfl⟩
  have hres : insL n.a v = idxFrom p 0 n.a := by rw [ep]; rfl
  have hp : ∀ x : Tri, p x = decide (x.2.1 = v) := fun x => by rw [ep]
  rw [hres]
  clear hres ep
  have HP := Lib.hid hp
  clear hp
  have HI := Lib.hid hi
  have HZ0 := Lib.hid hz0
  have HZ1 := Lib.hid hz1
  have HZ2 := Lib.hid hz2
  clear hi hz0 hz1 hz2
  go_enter Tryz.func58, Tryz.ntmps58
  go_wp2
  obtain ⟨W0, hW0⟩ := named (w.alloc (.cells #[.slice vq n.v.length vc, .slice aq n.a.length ac, .slice tq n.t.length tc] 26))
  rw [← hW0]
  have z0 : w.heap.size + 1 ≤ W0.heap.size := by rw [hW0]; simp
  have B0 : Hid (Below w.heap.size w W0) := by rw [hW0]; exact Lib.hid (below_new _)
  have K0 : Hid (Blk W0 w.heap.size #[.slice vq n.v.length vc, .slice aq n.a.length ac, .slice tq n.t.length tc] 26) := by rw [hW0]; exact Lib.hid (Blk.new _ _ _ _ rfl)
  have HA := Lib.hid h.a
  clear h hW0
  go_loopw [5, 6] (fun o i wr => ∃ k : Nat, k ≤ n.a.length ∧ i = .int .i64 k ∧ Hid (wr.ownsRow (w.heap.size + 1) 3 1 o (idxFrom p 0 (n.a.take k)).length ((idxFrom p 0 (n.a.take k)).map (Value.int .i64))) ∧
      Hid (Blk wr w.heap.size #[.slice vq n.v.length vc, .slice aq n.a.length ac, .slice tq n.t.length tc] 26) ∧ Hid (Below w.heap.size w wr) ∧ w.heap.size + 1 ≤ wr.heap.size) (fun _ i _ => n.a.length - (intOf i).toNat)
  case atStart => exact ⟨0, Nat.zero_le _, rfl, Lib.hid (World.ownsRow_nil _ _ _ _), K0, B0, z0⟩
  case round =>
    obtain ⟨k, hk, rfl, HO, HK, HB, hz⟩ := hrel
    clear B0 K0 z0
    obtain ⟨c0, c1, c2, -, -, -⟩ := HK.out.o3
    by_cases hlt : k < n.a.length
    · obtain ⟨b, o, rfl, x, y, z⟩ := (HA.out.below HB.out).at hlt
      have hb := World.block_lt_of_cell? wr _ x
      have hle := idx_le (p := p) (l := n.a) (k := k) hk
      have HT := Lib.hid (idx_take (p := p) hlt)
      have HPK := Lib.hid (HP.out n.a[k])
      obtain ⟨A, eA⟩ : ∃ A, n.a[k] = A := ⟨_, rfl⟩
      rw [eA] at x y z HPK HT
      by_cases hv : A.2.1 = v
      · have HN : Hid (idxFrom p 0 (n.a.take (k + 1)) = idxFrom p 0 (n.a.take k) ++ [(k : Int)]) := Lib.hid (by rw [HT.out, HPK.out]; simp [hv])
        clear HT HPK eA
        have hv' : (A.2.1 == v) = true := by simpa using hv
        go_wp2_with (at_builtin; refine wpList_append_own _ rfl _ _ 43 rfl (w.heap.size + 1) 3 i0 (.int .i64 0) 1 8 Tryz.underlying43 HI.out HZ0.out HZ1.out HZ2.out rfl (by decide) _ _ _ rfl (HO.out.alloc _) ⟨wr.heap.size, 0, none⟩ 1 1 [.int .i64 k] rfl rfl ?c1rins ?c2rins ?c3rins ?c4rins ?c5rins ?_)
        case c2rins => first | rfl | (intro u hu; simp at hu; subst hu; rfl)
        case c3rins => unfold maxLen; omega
        case c4rins => omega
        case c5rins => first | omega | (simp; omega)
        intro v' w1 hown' hgrow _
        have HO' : Hid (w1.ownsRow (w.heap.size + 1) 3 1 v' (idxFrom p 0 (n.a.take (k + 1))).length ((idxFrom p 0 (n.a.take (k + 1))).map (Value.int .i64))) := Lib.hid (by rw [HN.out, List.length_append, List.map_append]; exact hown')
        have HK' := Lib.hid ((HK.out.old _).grownO hgrow (own_ne HO.out (by omega)))
        have HB' := Lib.hid (below_grownO (HB.out.trans ((below_new _).mono HB.out.size)) hgrow (fun g hg => by have := own_ge HO.out g hg; omega))
        have hz' : w.heap.size + 1 ≤ w1.heap.size := by have := hgrow.size; simp at this; omega
        clear hown' hgrow HO HK HB c0 c1 c2 x y z hb HN hv hv'
        go_wp2
        go_roundw
        case rel => exact ⟨k + 1, by omega, by go_num, HO', HK', HB', hz'⟩
        case measure => simp [intOf]; omega
      · have HN : Hid (idxFrom p 0 (n.a.take (k + 1)) = idxFrom p 0 (n.a.take k)) := Lib.hid (by rw [HT.out, HPK.out]; simp [hv])
        have hv' : (A.2.1 == v) = false := by simpa using hv
        clear HT HPK eA
        go_wp2
        go_roundw
        case rel => exact ⟨k + 1, by omega, by go_num, Lib.hid (by rw [HN.out]; exact HO.out), HK, HB, hz⟩
        case measure => simp [intOf]; omega
    · obtain rfl : k = n.a.length := by omega
      go_wp2
      go_ret
      exact ⟨_, rfl, by have := HO.out; rw [List.take_length] at this; exact ints_of_owns this (by have := idxFrom_length p 0 n.a; omega), HB.out⟩

set_option maxHeartbeats 2000000 in
set_option maxRecDepth 100000 in
theorem routs_any (n : NetD) (vq aq tq : Option Addr) (vc ac tc : Nat) (v : Int) (w : World) (hs : n.a.length ≤ 100000) (h : NetS w n vq aq tq vc ac tc) :
    Calls Tryz.prog 59 #[netVal n vq aq tq vc ac tc, .int .i64 v] w (IntsPost (outsL n.a v) w) := by
  obtain ⟨i0, hi, hz0, hz1, hz2⟩ := info_parts infoInt
  obtain ⟨p, ep⟩ : ∃ p : Tri → Bool, p = fun x => decide (x.1 = v) := ⟨_, rfl⟩
  have hres : outsL n.a v = idxFrom p 0 n.a := by rw [ep]; rfl
  have hp : ∀ x : Tri, p x = decide (x.1 = v) := fun x => by rw [ep]
  rw [hres]
  clear hres ep
  have HP := Lib.hid hp
  clear hp
  have HI := Lib.hid hi
  have HZ0 := Lib.hid hz0
  have HZ1 := Lib.hid hz1
  have HZ2 := Lib.hid hz2
  clear hi hz0 hz1 hz2
  go_enter Tryz.func59, Tryz.ntmps59
  go_wp2
  obtain ⟨W0, hW0⟩ := named (w.alloc (.cells #[.slice vq n.v.length vc, .slice aq n.a.length ac, .slice tq n.t.length tc] 26))
  rw [← hW0]
  have z0 : w.heap.size + 1 ≤ W0.heap.size := by rw [hW0]; simp
  have B0 : Hid (Below w.heap.size w W0) := by rw [hW0]; exact Lib.hid (below_new _)
  have K0 : Hid (Blk W0 w.heap.size #[.slice vq n.v.length vc, .slice aq n.a.length ac, .slice tq n.t.length tc] 26) := by rw [hW0]; exact Lib.hid (Blk.new _ _ _ _ rfl)
  have HA := Lib.hid h.a
  clear h hW0
  go_loopw [5, 6] (fun o i wr => ∃ k : Nat, k ≤ n.a.length ∧ i = .int .i64 k ∧ Hid (wr.ownsRow (w.heap.size + 1) 3 1 o (idxFrom p 0 (n.a.take k)).length ((idxFrom p 0 (n.a.take k)).map (Value.int .i64))) ∧
      Hid (Blk wr w.heap.size #[.slice vq n.v.length vc, .slice aq n.a.length ac, .slice tq n.t.length tc] 26) ∧ Hid (Below w.heap.size w wr) ∧ w.heap.size + 1 ≤ wr.heap.size) (fun _ i _ => n.a.length - (intOf i).toNat)
  case atStart => exact ⟨0, Nat.zero_le _, rfl, Lib.hid (World.ownsRow_nil _ _ _ _), K0, B0, z0⟩
  case round =>
    obtain ⟨k, hk, rfl, HO, HK, HB, hz⟩ := hrel
    clear B0 K0 z0
    obtain ⟨c0, c1, c2, -, -, -⟩ := HK.out.o3
    by_cases hlt : k < n.a.length
    · obtain ⟨b, o, rfl, x, y, z⟩ := (HA.out.below HB.out).at hlt
      have hb := World.block_lt_of_cell? wr _ x
      have hle := idx_le (p := p) (l := n.a) (k := k) hk
      have HT := Lib.hid (idx_take (p := p) hlt)
      have HPK := Lib.hid (HP.out n.a[k])
      obtain ⟨A, eA⟩ : ∃ A, n.a[k] = A := ⟨_, rfl⟩
      rw [eA] at x y z HPK HT
      by_cases hv : A.1 = v
      · have HN : Hid (idxFrom p 0 (n.a.take (k + 1)) = idxFrom p 0 (n.a.take k) ++ [(k : Int)]) := Lib.hid (by rw [HT.out, HPK.out]; simp [hv])
        clear HT HPK eA
        have hv' : (A.1 == v) = true := by simpa using hv
        go_wp2_with (at_builtin; refine wpList_append_own _ rfl _ _ 43 rfl (w.heap.size + 1) 3 i0 (.int .i64 0) 1 8 Tryz.underlying43 HI.out HZ0.out HZ1.out HZ2.out rfl (by decide) _ _ _ rfl (HO.out.alloc _) ⟨wr.heap.size, 0, none⟩ 1 1 [.int .i64 k] rfl rfl ?c1routs ?c2routs ?c3routs ?c4routs ?c5routs ?_)
        case c2routs => first | rfl | (intro u hu; simp at hu; subst hu; rfl)
        case c3routs => unfold maxLen; omega
        case c4routs => omega
        case c5routs => first | omega | (simp; omega)
        intro v' w1 hown' hgrow _
        have HO' : Hid (w1.ownsRow (w.heap.size + 1) 3 1 v' (idxFrom p 0 (n.a.take (k + 1))).length ((idxFrom p 0 (n.a.take (k + 1))).map (Value.int .i64))) := Lib.hid (by rw [HN.out, List.length_append, List.map_append]; exact hown')
        have HK' := Lib.hid ((HK.out.old _).grownO hgrow (own_ne HO.out (by omega)))
        have HB' := Lib.hid (below_grownO (HB.out.trans ((below_new _).mono HB.out.size)) hgrow (fun g hg => by have := own_ge HO.out g hg; omega))
        have hz' : w.heap.size + 1 ≤ w1.heap.size := by have := hgrow.size; simp at this; omega
        clear hown' hgrow HO HK HB c0 c1 c2 x y z hb HN hv hv'
        go_wp2
        go_roundw
        case rel => exact ⟨k + 1, by omega, by go_num, HO', HK', HB', hz'⟩
        case measure => simp [intOf]; omega
      · have HN : Hid (idxFrom p 0 (n.a.take (k + 1)) = idxFrom p 0 (n.a.take k)) := Lib.hid (by rw [HT.out, HPK.out]; simp [hv])
        have hv' : (A.1 == v) = false := by simpa using hv
        clear HT HPK eA
        go_wp2
        go_roundw
        case rel => exact ⟨k + 1, by omega, by go_num, Lib.hid (by rw [HN.out]; exact HO.out), HK, HB, hz⟩
        case measure => simp [intOf]; omega
    · obtain rfl : k = n.a.length := by omega
      go_wp2
      go_ret
      exact ⟨_, rfl, by have := HO.out; rw [List.take_length] at this; exact ints_of_owns this (by have := idxFrom_length p 0 n.a; omega), HB.out⟩

set_option maxHeartbeats 1000000 in
set_option maxRecDepth 100000 in
theorem rplace_any (u : Value) (l : List Int) (a : Int) (w : World) (h : I64s w u l) :
    Calls Tryz.prog 19 #[u, .int .i64 a] w fun e w' => e = .returned (.int .i64 (placeL l a)) ∧ w = w' := by
  unfold placeL
  rcases h with ⟨rfl, p, c, rfl, -⟩ | ⟨hl, b, o, c, -, -, rfl, hc⟩
  · go_enter Tryz.func19, Tryz.ntmps19
    go_wp2
    refine wp_loop_rounds 1 ?_
    rw [rounds_succ]
    go_wp2
    go_ret
    exact ⟨rfl, rfl⟩
  have HC := Lib.hid hc
  clear hc
  go_enter Tryz.func19, Tryz.ntmps19
  go_wp2
  go_loop [5] (fun i => ∃ k : Nat, k ≤ l.length ∧ i = .int .i64 k ∧ Hid (∀ y ∈ l.take k, y ≠ a)) (fun i => l.length - (intOf i).toNat)
  case atStart => exact ⟨0, Nat.zero_le _, rfl, Lib.hid (by simp)⟩
  case round =>
    obtain ⟨k, hk, rfl, HN⟩ := hrel
    by_cases hlt : k < l.length
    · have g := HC.out k hlt
      have hb := World.block_lt_of_cell? w _ g
      obtain ⟨A, eA⟩ : ∃ A, l[k] = A := ⟨_, rfl⟩
      have HT := Lib.hid (take_snoc l k hlt)
      have HD : Hid (l = l.take k ++ A :: l.drop (k + 1)) := Lib.hid (by rw [← eA, List.getElem_cons_drop, List.take_append_drop])
      rw [eA] at g HT
      clear eA
      by_cases hv : A = a
      · have hv' : (A == a) = true := by simpa using hv
        have HR : Hid (placeFrom 0 l a = (k : Int)) := Lib.hid (by
          conv => lhs; rw [HD.out]
          rw [placeFrom_at _ _ _ _ _ HN.out hv, List.length_take, Nat.min_eq_left (by omega), Int.zero_add])
        go_wp2
        go_ret
        exact ⟨ret_int HR.out.symm, rfl⟩
      · have hv' : (A == a) = false := by simpa using hv
        have HN' : Hid (∀ y ∈ l.take (k + 1), y ≠ a) := Lib.hid (by
          rw [HT.out]
          intro y hy
          rcases List.mem_append.1 hy with h | h
          · exact HN.out y h
          · rw [List.mem_singleton.1 h]; exact hv)
        clear HN HT HD
        go_wp2
        go_round
        case rel => exact ⟨k + 1, by omega, by go_num, HN'⟩
        case measure => simp [intOf]; omega
    · have HR : Hid (placeFrom 0 l a = -1) := Lib.hid (placeFrom_none _ _ _ (by have := HN.out; rwa [List.take_of_length_le (by omega)] at this))
      go_wp2
      go_ret
      exact ⟨ret_int HR.out.symm, rfl⟩

set_option maxHeartbeats 1000000 in
theorem rthere_any (n : NetD) (vq aq tq : Option Addr) (vc ac tc : Nat) (k : Int) (w : World) :
    Calls Tryz.prog 28 #[netVal n vq aq tq vc ac tc, .int .i64 k] w fun e w' => e = .returned (.bool (n.there k)) ∧ Below w.heap.size w w' := by
  have hres : ∃ r, n.there k = r := ⟨_, rfl⟩
  obtain ⟨r, er⟩ := hres
  rw [er]
  unfold NetD.there at er
  by_cases h0 : 0 ≤ k
  · by_cases h1 : k < n.a.length
    · obtain rfl : r = true := by rw [← er]; simp [h0, h1]
      clear er
      have d0 : decide (0 ≤ k) = true := by simpa using h0
      go_enter Tryz.func28, Tryz.ntmps28
      go_wp2
      go_ret
      exact ⟨rfl, below_new _⟩
    · obtain rfl : r = false := by rw [← er]; simp; omega
      clear er
      have d0 : decide (0 ≤ k) = true := by simpa using h0
      have d1 : decide (k < (n.a.length : Int)) = false := by simp; omega
      go_enter Tryz.func28, Tryz.ntmps28
      go_wp2
      go_ret
      exact ⟨rfl, below_new _⟩
  · obtain rfl : r = false := by rw [← er]; simp; omega
    clear er
    have d0 : decide (0 ≤ k) = false := by simp; omega
    go_enter Tryz.func28, Tryz.ntmps28
    go_wp2
    go_ret
    exact ⟨rfl, below_new _⟩

end Go.Proofs.YtgihaakgadmidaaGreat
