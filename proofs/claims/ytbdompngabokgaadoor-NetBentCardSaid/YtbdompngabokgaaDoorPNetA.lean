/-
  The program's own nets: its small functions; which arcs end, begin, at a vertex.
-/
import Derived.Test.YtbdompngabokgaaDoorRNetA
import Derived.Test.YtbdompngabokgaaDoorA1
import Derived.Test.YtbdompngabokgaaDoorA2
namespace Go.Proofs.YtbdompngabokgaaDoor
open Go.RowKit
theorem outs1_any (f t x : Int) (w : World) : Calls Tryd.prog 54 #[.agg #[.int .i64 f, .int .i64 t, .int .i64 x]] w fun e w' => e = .returned (.int .i64 f) ∧ w' = w.alloc (.cells #[.int .i64 f, .int .i64 t, .int .i64 x] 87) := by
  go_enter Tryd.func54, Tryd.ntmps54
  go_wp2
  go_ret
  exact ⟨rfl, rfl⟩
theorem ins1_any (f t x : Int) (w : World) : Calls Tryd.prog 53 #[.agg #[.int .i64 f, .int .i64 t, .int .i64 x]] w fun e w' => e = .returned (.int .i64 t) ∧ w' = w.alloc (.cells #[.int .i64 f, .int .i64 t, .int .i64 x] 87) := by
  go_enter Tryd.func53, Tryd.ntmps53
  go_wp2
  go_ret
  exact ⟨rfl, rfl⟩
theorem namong_is (i n : Int) (b : Bool) (w : World) (h : decide (0 ≤ i ∧ i < n) = b) : Calls Tryd.prog 75 #[.int .i64 i, .int .i64 n] w fun e w' => e = .returned (.bool b) ∧ w = w' := by
  by_cases h0 : 0 ≤ i
  · by_cases h1 : i < n
    · obtain rfl : b = true := by rw [← h]; simp [h0, h1]
      clear h
      have d0 : decide (0 ≤ i) = true := by simpa using h0
      go_enter Tryd.func75, Tryd.ntmps75
      go_wp2
      go_ret
      exact ⟨rfl, rfl⟩
    · obtain rfl : b = false := by rw [← h]; simp; omega
      clear h
      have d0 : decide (0 ≤ i) = true := by simpa using h0
      have d1 : decide (i < n) = false := by simp; omega
      go_enter Tryd.func75, Tryd.ntmps75
      go_wp2
      go_ret
      exact ⟨rfl, rfl⟩
  · obtain rfl : b = false := by rw [← h]; simp; omega
    clear h
    have d0 : decide (0 ≤ i) = false := by simp; omega
    go_enter Tryd.func75, Tryd.ntmps75
    go_wp2
    go_ret
    exact ⟨rfl, rfl⟩
theorem ncoord_is (x : Int) (b : Bool) (w : World) (h : coordB x = b) : Calls Tryd.prog 74 #[.int .i64 x] w fun e w' => e = .returned (.bool b) ∧ w = w' := by
  unfold coordB at h
  by_cases h0 : -1048576 ≤ x
  · by_cases h1 : x ≤ 1048576
    · obtain rfl : b = true := by rw [← h]; simp [h0, h1]
      clear h
      have d0 : decide (-1048576 ≤ x) = true := by simpa using h0
      go_enter Tryd.func74, Tryd.ntmps74
      go_wp2
      go_ret
      exact ⟨rfl, rfl⟩
    · obtain rfl : b = false := by rw [← h]; simp [h0]; omega
      clear h
      have d0 : decide (-1048576 ≤ x) = true := by simpa using h0
      have d1 : decide (x ≤ 1048576) = false := by simpa using h1
      go_enter Tryd.func74, Tryd.ntmps74
      go_wp2
      go_ret
      exact ⟨rfl, rfl⟩
  · obtain rfl : b = false := by rw [← h]; simp; omega
    clear h
    have d0 : decide (-1048576 ≤ x) = false := by simpa using h0
    go_enter Tryd.func74, Tryd.ntmps74
    go_wp2
    go_ret
    exact ⟨rfl, rfl⟩
theorem nfault_any (p : ByteArray) (n : Int) (t : TypeId) (u : Value) (w : World) :
    Calls Tryd.prog 72 #[.string p, .int .i64 n, .iface t u] w fun ev w' => ev = .returned (.iface 77 (.pointer (some ⟨w.heap.size, 0, none⟩))) ∧ w' = w.alloc (.cells #[.string p, .int .i64 n, .iface t u] 81) := by
  go_enter Tryd.func72, Tryd.ntmps72
  go_wp2
  go_ret
  exact ⟨rfl, rfl⟩
set_option maxHeartbeats 1000000 in
set_option maxRecDepth 100000 in
theorem nindex_any (u : Value) (l : List Int) (a : Int) (w : World) (h : I64s w u l) :
    Calls Tryd.prog 57 #[u, .int .i64 a] w fun e w' => e = .returned (.int .i64 (placeL l a)) ∧ w = w' := by
  unfold placeL
  rcases h with ⟨rfl, p, c, rfl, -⟩ | ⟨hl, b, o, c, -, -, rfl, hc⟩
  · go_enter Tryd.func57, Tryd.ntmps57
    go_wp2
    refine wp_loop_rounds 1 ?_
    rw [rounds_succ]
    go_wp2
    go_ret
    exact ⟨rfl, rfl⟩
  have HC := Lib.hid hc
  clear hc
  go_enter Tryd.func57, Tryd.ntmps57
  go_wp2
  go_loop [5, 8] (fun _ i => ∃ k : Nat, k ≤ l.length ∧ i = .int .i64 k ∧ Hid (∀ y ∈ l.take k, y ≠ a)) (fun _ i => l.length - (intOf i).toNat)
  case atStart => exact ⟨0, Nat.zero_le _, rfl, Lib.hid (by simp)⟩
  case round =>
    obtain ⟨k, hk, rfl, HN⟩ := hrel
    by_cases hlt : k < l.length
    · have g := HC.out k hlt
      have hb := World.block_lt_of_cell? w _ g
      obtain ⟨A, eA⟩ : ∃ A, l[k] = A := ⟨_, rfl⟩
      have HT := Lib.hid (take_snoc l k hlt)
      have HD : Hid (l = l.take k ++ A :: l.drop (k + 1)) := Lib.hid (by rw [← eA, List.getElem_cons_drop, List.take_append_drop])
      rw [eA] at g HT
      clear eA
      by_cases hv : A = a
      · have hv' : (a == A) = true := by simpa using hv.symm
        have HR : Hid (placeFrom 0 l a = (k : Int)) := Lib.hid (by
          conv => lhs; rw [HD.out]
          rw [placeFrom_at _ _ _ _ _ HN.out hv, List.length_take, Nat.min_eq_left (by omega), Int.zero_add])
        go_wp2
        go_ret
        exact ⟨ret_int HR.out.symm, rfl⟩
      · have hv' : (a == A) = false := by simpa using fun e : a = A => hv e.symm
        have HN' : Hid (∀ y ∈ l.take (k + 1), y ≠ a) := Lib.hid (by
          rw [HT.out]
          intro y hy
          rcases List.mem_append.1 hy with h | h
          · exact HN.out y h
          · rw [List.mem_singleton.1 h]; exact hv)
        clear HN HT HD
        go_wp2
        go_round
        case rel => exact ⟨k + 1, by omega, by go_num, HN'⟩
        case measure => simp [intOf]; omega
    · have HR : Hid (placeFrom 0 l a = -1) := Lib.hid (placeFrom_none _ _ _ (by have := HN.out; rwa [List.take_of_length_le (by omega)] at this))
      go_wp2
      go_ret
      exact ⟨ret_int HR.out.symm, rfl⟩

set_option maxHeartbeats 2000000 in
set_option maxRecDepth 100000 in
theorem those_ins (n : NetD) (vq aq tq : Option Addr) (vc ac tc : Nat) (v : Int) (w : World) (hs : n.a.length ≤ 100000) (h : NetS w n vq aq tq vc ac tc) (hv0 : 0 ≤ v ∧ v < n.v.length) :
    Calls Tryd.prog 52 #[netVal n vq aq tq vc ac tc, .int .i64 v, .func (.func 53) #[] #[]] w (IntsPost (insL n.a v) w) := by
  obtain ⟨i0, hi, hz0, hz1, hz2⟩ := info_parts infoInt
  obtain ⟨p, ep⟩ : ∃ p : Tri → Bool, p = fun x => decide (x.2.1 = v) := ⟨_, rfl⟩
  have hres : insL n.a v = idxFrom p 0 n.a := by rw [ep]; rfl
  have hp : ∀ x : Tri, p x = decide (x.2.1 = v) := fun x => by rw [ep]
  rw [hres]
  clear hres ep
  have HP := Lib.hid hp
  have HV := Lib.hid (decide_eq_true hv0)
  have HI := Lib.hid hi
  have HZ0 := Lib.hid hz0
  have HZ1 := Lib.hid hz1
  have HZ2 := Lib.hid hz2
  clear hp hv0 hi hz0 hz1 hz2
  go_enter Tryd.func52, Tryd.ntmps52
  go_wp2_with fail
  obtain ⟨W0, hW0⟩ := named (w.alloc (.cells #[.slice vq n.v.length vc, .slice aq n.a.length ac, .slice tq n.t.length tc] 37))
  rw [← hW0]
  have z0 : w.heap.size + 1 ≤ W0.heap.size := by rw [hW0]; simp
  have B0 : Hid (Below w.heap.size w W0) := by rw [hW0]; exact Lib.hid (below_new _)
  have K0 : Hid (Blk W0 w.heap.size #[.slice vq n.v.length vc, .slice aq n.a.length ac, .slice tq n.t.length tc] 37) := by rw [hW0]; exact Lib.hid (Blk.new _ _ _ _ rfl)
  have HA := Lib.hid h.a
  clear h hW0
  obtain ⟨c0, c1, c2, -, -, -⟩ := K0.out.o3
  refine (namong_is _ _ true _ HV.out).mono ?_
  rintro e w' ⟨rfl, rfl⟩
  go_wp2_with fail
  clear c0 c1 c2
  go_loopw [7, 8, 19] (fun ol _ i wr => ∃ k : Nat, k ≤ n.a.length ∧ i = .int .i64 k ∧ Hid (wr.ownsRow (w.heap.size + 1) 3 1 ol (idxFrom p 0 (n.a.take k)).length ((idxFrom p 0 (n.a.take k)).map (Value.int .i64))) ∧
      Hid (Blk wr w.heap.size #[.slice vq n.v.length vc, .slice aq n.a.length ac, .slice tq n.t.length tc] 37) ∧ Hid (Below w.heap.size w wr) ∧ w.heap.size + 1 ≤ wr.heap.size) (fun _ _ i _ => n.a.length - (intOf i).toNat)
  case atStart => exact ⟨0, Nat.zero_le _, rfl, Lib.hid (World.ownsRow_nil _ _ _ _), K0, B0, z0⟩
  case round =>
    obtain ⟨k, hk, rfl, HO, HK, HB, hz⟩ := hrel
    clear B0 K0 z0
    by_cases hlt : k < n.a.length
    · have hli : (k : Int) < (n.a.length : Int) := by omega
      obtain ⟨b, oo, rfl, x, y, z⟩ := (HA.out.below HB.out).at hlt
      have hb := World.block_lt_of_cell? wr _ x
      have hle := idx_le (p := p) (l := n.a) (k := k) hk
      have HT := Lib.hid (idx_take (p := p) hlt)
      have HPK := Lib.hid (HP.out n.a[k])
      obtain ⟨⟨F, T, X⟩, eA⟩ : ∃ A, n.a[k] = A := ⟨_, rfl⟩
      rw [eA] at x y z HPK HT
      simp only [] at x y z HPK
      clear eA
      go_wp2_with fail
      clear x y z
      refine (ins1_any F T X _).mono ?_
      rintro e w' ⟨rfl, rfl⟩
      obtain ⟨W1, hW1⟩ := named ((wr.alloc (.cells #[.int .i64 F, .int .i64 T, .int .i64 X] 87)).alloc (.cells #[.int .i64 F, .int .i64 T, .int .i64 X] 87))
      rw [← hW1]
      have HO1 := Lib.hid ((HO.out.alloc (.cells #[.int .i64 F, .int .i64 T, .int .i64 X] 87)).alloc (.cells #[.int .i64 F, .int .i64 T, .int .i64 X] 87))
      rw [← hW1] at HO1
      have HK1 := Lib.hid ((HK.out.old (.cells #[.int .i64 F, .int .i64 T, .int .i64 X] 87)).old (.cells #[.int .i64 F, .int .i64 T, .int .i64 X] 87))
      rw [← hW1] at HK1
      have HB1 : Hid (Below w.heap.size w W1) := by rw [hW1]; exact Lib.hid (HB.out.trans ((below_alloc2 _ _).mono HB.out.size))
      have hz1 : w.heap.size + 1 ≤ W1.heap.size := by rw [hW1]; simp; omega
      clear HO HK HB hz hW1 hb
      by_cases hv : T = v
      · have HN : Hid (idxFrom p 0 (n.a.take (k + 1)) = idxFrom p 0 (n.a.take k) ++ [(k : Int)]) := Lib.hid (by rw [HT.out, HPK.out]; simp [hv])
        have hv' : (T == v) = true := by simpa using hv
        clear HT HPK
        go_wp2_with (at_builtin; refine wpList_append_own _ rfl _ _ 46 rfl (w.heap.size + 1) 3 i0 (.int .i64 0) 1 8 Tryd.underlying46 HI.out HZ0.out HZ1.out HZ2.out rfl (by decide) _ _ _ rfl (HO1.out.alloc _) ⟨W1.heap.size, 0, none⟩ 1 1 [.int .i64 k] rfl rfl ?c1ins ?c2ins ?c3ins ?c4ins ?c5ins ?_)
        case c1ins =>
          intro j u hu
          rcases j with _ | j
          · simp only [List.getElem?_cons_zero, Option.some.injEq] at hu
            subst hu
            simp [Addr.add]
          · simp at hu
        case c2ins => first | rfl | (intro u hu; simp at hu; subst hu; rfl)
        case c3ins => unfold maxLen; omega
        case c4ins => omega
        case c5ins => first | omega | (simp; omega)
        intro v' w1 hown' hgrow _
        have HO' : Hid (w1.ownsRow (w.heap.size + 1) 3 1 v' (idxFrom p 0 (n.a.take (k + 1))).length ((idxFrom p 0 (n.a.take (k + 1))).map (Value.int .i64))) := Lib.hid (by rw [HN.out, List.length_append, List.map_append]; exact hown')
        have HK' := Lib.hid ((HK1.out.old _).grownO hgrow (own_ne HO1.out (by omega)))
        have HB' := Lib.hid (below_grownO (HB1.out.trans ((below_new _).mono HB1.out.size)) hgrow (fun g hg => by have := own_ge HO1.out g hg; omega))
        have hz' : w.heap.size + 1 ≤ w1.heap.size := by have := hgrow.size; simp at this; omega
        clear hown' hgrow HO1 HK1 HB1 HN hv hv'
        go_wp2
        go_roundw
        case rel => exact ⟨k + 1, by omega, by go_num, HO', HK', HB', hz'⟩
        case measure => simp [intOf]; omega
      · have HN : Hid (idxFrom p 0 (n.a.take (k + 1)) = idxFrom p 0 (n.a.take k)) := Lib.hid (by rw [HT.out, HPK.out]; simp [hv])
        have hv' : (T == v) = false := by simpa using hv
        clear HT HPK
        go_wp2
        go_roundw
        case rel => exact ⟨k + 1, by omega, by go_num, Lib.hid (by rw [HN.out]; exact HO1.out), HK1, HB1, hz1⟩
        case measure => simp [intOf]; omega
    · obtain rfl : k = n.a.length := by omega
      go_wp2
      go_ret
      exact ⟨_, rfl, by have := HO.out; rw [List.take_length] at this; exact ints_of_owns this (by have := idxFrom_length p 0 n.a; omega), HB.out⟩

set_option maxHeartbeats 2000000 in
set_option maxRecDepth 100000 in
theorem those_outs (n : NetD) (vq aq tq : Option Addr) (vc ac tc : Nat) (v : Int) (w : World) (hs : n.a.length ≤ 100000) (h : NetS w n vq aq tq vc ac tc) (hv0 : 0 ≤ v ∧ v < n.v.length) :
    Calls Tryd.prog 52 #[netVal n vq aq tq vc ac tc, .int .i64 v, .func (.func 54) #[] #[]] w (IntsPost (outsL n.a v) w) := by
  obtain ⟨i0, hi, hz0, hz1, hz2⟩ := info_parts infoInt
  obtain ⟨p, ep⟩ : ∃ p : Tri → Bool, p = fun x => decide (x.1 = v) := ⟨_, rfl⟩
  have hres : outsL n.a v = idxFrom p 0 n.a := by rw [ep]; rfl
  have hp : ∀ x : Tri, p x = decide (x.1 = v) := fun x => by rw [ep]
  rw [hres]
  clear hres ep
  have HP := Lib.hid hp
  have HV := Lib.hid (decide_eq_true hv0)
  have HI := Lib.hid hi
  have HZ0 := Lib.hid hz0
  have HZ1 := Lib.hid hz1
  have HZ2 := Lib.hid hz2
  clear hp hv0 hi hz0 hz1 hz2
  go_enter Tryd.func52, Tryd.ntmps52
  go_wp2_with fail
  obtain ⟨W0, hW0⟩ := named (w.alloc (.cells #[.slice vq n.v.length vc, .slice aq n.a.length ac, .slice tq n.t.length tc] 37))
  rw [← hW0]
  have z0 : w.heap.size + 1 ≤ W0.heap.size := by rw [hW0]; simp
  have B0 : Hid (Below w.heap.size w W0) := by rw [hW0]; exact Lib.hid (below_new _)
  have K0 : Hid (Blk W0 w.heap.size #[.slice vq n.v.length vc, .slice aq n.a.length ac, .slice tq n.t.length tc] 37) := by rw [hW0]; exact Lib.hid (Blk.new _ _ _ _ rfl)
  have HA := Lib.hid h.a
  clear h hW0
  obtain ⟨c0, c1, c2, -, -, -⟩ := K0.out.o3
  refine (namong_is _ _ true _ HV.out).mono ?_
  rintro e w' ⟨rfl, rfl⟩
  go_wp2_with fail
  clear c0 c1 c2
  go_loopw [7, 8, 19] (fun ol _ i wr => ∃ k : Nat, k ≤ n.a.length ∧ i = .int .i64 k ∧ Hid (wr.ownsRow (w.heap.size + 1) 3 1 ol (idxFrom p 0 (n.a.take k)).length ((idxFrom p 0 (n.a.take k)).map (Value.int .i64))) ∧
      Hid (Blk wr w.heap.size #[.slice vq n.v.length vc, .slice aq n.a.length ac, .slice tq n.t.length tc] 37) ∧ Hid (Below w.heap.size w wr) ∧ w.heap.size + 1 ≤ wr.heap.size) (fun _ _ i _ => n.a.length - (intOf i).toNat)
  case atStart => exact ⟨0, Nat.zero_le _, rfl, Lib.hid (World.ownsRow_nil _ _ _ _), K0, B0, z0⟩
  case round =>
    obtain ⟨k, hk, rfl, HO, HK, HB, hz⟩ := hrel
    clear B0 K0 z0
    by_cases hlt : k < n.a.length
    · have hli : (k : Int) < (n.a.length : Int) := by omega
      obtain ⟨b, oo, rfl, x, y, z⟩ := (HA.out.below HB.out).at hlt
      have hb := World.block_lt_of_cell? wr _ x
      have hle := idx_le (p := p) (l := n.a) (k := k) hk
      have HT := Lib.hid (idx_take (p := p) hlt)
      have HPK := Lib.hid (HP.out n.a[k])
      obtain ⟨⟨F, T, X⟩, eA⟩ : ∃ A, n.a[k] = A := ⟨_, rfl⟩
      rw [eA] at x y z HPK HT
      simp only [] at x y z HPK
      clear eA
      go_wp2_with fail
      clear x y z
      refine (outs1_any F T X _).mono ?_
      rintro e w' ⟨rfl, rfl⟩
      obtain ⟨W1, hW1⟩ := named ((wr.alloc (.cells #[.int .i64 F, .int .i64 T, .int .i64 X] 87)).alloc (.cells #[.int .i64 F, .int .i64 T, .int .i64 X] 87))
      rw [← hW1]
      have HO1 := Lib.hid ((HO.out.alloc (.cells #[.int .i64 F, .int .i64 T, .int .i64 X] 87)).alloc (.cells #[.int .i64 F, .int .i64 T, .int .i64 X] 87))
      rw [← hW1] at HO1
      have HK1 := Lib.hid ((HK.out.old (.cells #[.int .i64 F, .int .i64 T, .int .i64 X] 87)).old (.cells #[.int .i64 F, .int .i64 T, .int .i64 X] 87))
      rw [← hW1] at HK1
      have HB1 : Hid (Below w.heap.size w W1) := by rw [hW1]; exact Lib.hid (HB.out.trans ((below_alloc2 _ _).mono HB.out.size))
      have hz1 : w.heap.size + 1 ≤ W1.heap.size := by rw [hW1]; simp; omega
      clear HO HK HB hz hW1 hb
      by_cases hv : F = v
      · have HN : Hid (idxFrom p 0 (n.a.take (k + 1)) = idxFrom p 0 (n.a.take k) ++ [(k : Int)]) := Lib.hid (by rw [HT.out, HPK.out]; simp [hv])
        have hv' : (F == v) = true := by simpa using hv
        clear HT HPK
        go_wp2_with (at_builtin; refine wpList_append_own _ rfl _ _ 46 rfl (w.heap.size + 1) 3 i0 (.int .i64 0) 1 8 Tryd.underlying46 HI.out HZ0.out HZ1.out HZ2.out rfl (by decide) _ _ _ rfl (HO1.out.alloc _) ⟨W1.heap.size, 0, none⟩ 1 1 [.int .i64 k] rfl rfl ?c1outs ?c2outs ?c3outs ?c4outs ?c5outs ?_)
        case c1outs =>
          intro j u hu
          rcases j with _ | j
          · simp only [List.getElem?_cons_zero, Option.some.injEq] at hu
            subst hu
            simp [Addr.add]
          · simp at hu
        case c2outs => first | rfl | (intro u hu; simp at hu; subst hu; rfl)
        case c3outs => unfold maxLen; omega
        case c4outs => omega
        case c5outs => first | omega | (simp; omega)
        intro v' w1 hown' hgrow _
        have HO' : Hid (w1.ownsRow (w.heap.size + 1) 3 1 v' (idxFrom p 0 (n.a.take (k + 1))).length ((idxFrom p 0 (n.a.take (k + 1))).map (Value.int .i64))) := Lib.hid (by rw [HN.out, List.length_append, List.map_append]; exact hown')
        have HK' := Lib.hid ((HK1.out.old _).grownO hgrow (own_ne HO1.out (by omega)))
        have HB' := Lib.hid (below_grownO (HB1.out.trans ((below_new _).mono HB1.out.size)) hgrow (fun g hg => by have := own_ge HO1.out g hg; omega))
        have hz' : w.heap.size + 1 ≤ w1.heap.size := by have := hgrow.size; simp at this; omega
        clear hown' hgrow HO1 HK1 HB1 HN hv hv'
        go_wp2
        go_roundw
        case rel => exact ⟨k + 1, by omega, by go_num, HO', HK', HB', hz'⟩
        case measure => simp [intOf]; omega
      · have HN : Hid (idxFrom p 0 (n.a.take (k + 1)) = idxFrom p 0 (n.a.take k)) := Lib.hid (by rw [HT.out, HPK.out]; simp [hv])
        have hv' : (F == v) = false := by simpa using hv
        clear HT HPK
        go_wp2
        go_roundw
        case rel => exact ⟨k + 1, by omega, by go_num, Lib.hid (by rw [HN.out]; exact HO1.out), HK1, HB1, hz1⟩
        case measure => simp [intOf]; omega
    · obtain rfl : k = n.a.length := by omega
      go_wp2
      go_ret
      exact ⟨_, rfl, by have := HO.out; rw [List.take_length] at this; exact ints_of_owns this (by have := idxFrom_length p 0 n.a; omega), HB.out⟩

theorem those_out_ins (n : NetD) (vq aq tq : Option Addr) (vc ac tc : Nat) (v : Int) (u : Value) (w : World) (hv0 : ¬ (0 ≤ v ∧ v < n.v.length)) :
    Calls Tryd.prog 52 #[netVal n vq aq tq vc ac tc, .int .i64 v, u] w (IntsPost [] w) := by
  have HV := Lib.hid (decide_eq_false hv0)
  clear hv0
  go_enter Tryd.func52, Tryd.ntmps52
  go_wp2_with fail
  refine (namong_is _ _ false _ HV.out).mono ?_
  rintro e w' ⟨rfl, rfl⟩
  go_wp2_with fail
  go_ret
  exact ⟨_, rfl, Or.inl ⟨rfl, none, 0, rfl, fun _ => rfl⟩, below_new _⟩

set_option maxRecDepth 100000 in
/-- The program's own Ins, of a net that may be. -/
theorem nins_any (n : NetD) (vq aq tq : Option Addr) (vc ac tc : Nat) (v : Int) (w : World) (h : NetS w n vq aq tq vc ac tc) (hg : NetGood n) :
    Calls Tryd.prog 20 #[netVal n vq aq tq vc ac tc, .int .i64 v] w (IntsPost (insL n.a v) w) := by
  have HT : Hid (∀ w', NetS w' n vq aq tq vc ac tc → Calls Tryd.prog 52 #[netVal n vq aq tq vc ac tc, .int .i64 v, .func (.func 53) #[] #[]] w' (IntsPost (insL n.a v) w')) := Lib.hid (fun w' h' => by
    by_cases hv : 0 ≤ v ∧ v < n.v.length
    · exact those_ins n vq aq tq vc ac tc v w' (by have := hg.sa; omega) h' hv
    · rw [ins_none hg hv]
      exact those_out_ins n vq aq tq vc ac tc v _ w' hv)
  have HS := Lib.hid h
  clear h hg
  go_enter Tryd.func20, Tryd.ntmps20
  go_wp2_with fail
  have hb1 := below_new (w := w) (.cells #[.slice vq n.v.length vc, .slice aq n.a.length ac, .slice tq n.t.length tc] 37)
  refine (HT.out _ (HS.out.below hb1)).mono ?_
  rintro e w' ⟨v', rfl, hI, hb⟩
  obtain ⟨gq, gc, rfl⟩ := hI.shape
  have HI := Lib.hid hI
  have HB := Lib.hid (hb1.trans (hb.mono hb1.size))
  clear hI hb hb1
  go_wp2_with fail
  go_ret
  exact ⟨_, rfl, HI.out, HB.out⟩

set_option maxRecDepth 100000 in
/-- The program's own Outs, of a net that may be. -/
theorem nouts_any (n : NetD) (vq aq tq : Option Addr) (vc ac tc : Nat) (v : Int) (w : World) (h : NetS w n vq aq tq vc ac tc) (hg : NetGood n) :
    Calls Tryd.prog 22 #[netVal n vq aq tq vc ac tc, .int .i64 v] w (IntsPost (outsL n.a v) w) := by
  have HT : Hid (∀ w', NetS w' n vq aq tq vc ac tc → Calls Tryd.prog 52 #[netVal n vq aq tq vc ac tc, .int .i64 v, .func (.func 54) #[] #[]] w' (IntsPost (outsL n.a v) w')) := Lib.hid (fun w' h' => by
    by_cases hv : 0 ≤ v ∧ v < n.v.length
    · exact those_outs n vq aq tq vc ac tc v w' (by have := hg.sa; omega) h' hv
    · rw [outs_none hg hv]
      exact those_out_ins n vq aq tq vc ac tc v _ w' hv)
  have HS := Lib.hid h
  clear h hg
  go_enter Tryd.func22, Tryd.ntmps22
  go_wp2_with fail
  have hb1 := below_new (w := w) (.cells #[.slice vq n.v.length vc, .slice aq n.a.length ac, .slice tq n.t.length tc] 37)
  refine (HT.out _ (HS.out.below hb1)).mono ?_
  rintro e w' ⟨v', rfl, hI, hb⟩
  obtain ⟨gq, gc, rfl⟩ := hI.shape
  have HI := Lib.hid hI
  have HB := Lib.hid (hb1.trans (hb.mono hb1.size))
  clear hI hb hb1
  go_wp2_with fail
  go_ret
  exact ⟨_, rfl, HI.out, HB.out⟩

end Go.Proofs.YtbdompngabokgaaDoor
