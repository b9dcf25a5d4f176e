/-
  The laws' Near and Copies, the document's Coord and Place; rows of points that grow.
-/
import Derived.Test.YtleheaffipokfaaLnD
namespace Go.Proofs.Ytleheaffipokfaa
open Go.RowKit Go.Sort

theorem infoPair : (Try.prog.info? 30).map (fun i => (i.zero, i.size, i.bytes)) = some (some (.agg #[.int .i64 0, .int .i64 0]), 2, 16) := by kernel_rfl
/-- Pairs as cells. -/
def flatP : List (Int × Int) → List Value
  | [] => []
  | x :: r => .int .i64 x.1 :: .int .i64 x.2 :: flatP r
theorem flatP_len : ∀ l, (flatP l).length = l.length * 2
  | [] => rfl
  | x :: r => by rw [flatP, List.length_cons, List.length_cons, flatP_len r, List.length_cons]; omega
theorem flatP_at : ∀ (l : List (Int × Int)) (i : Nat) (h : i < l.length), (flatP l)[i * 2]? = some (.int .i64 l[i].1) ∧ (flatP l)[i * 2 + 1]? = some (.int .i64 l[i].2)
  | x :: r, 0, h => by simp [flatP]
  | x :: r, i + 1, h => by
    have := flatP_at r i (by simpa using h)
    rw [flatP, show (i + 1) * 2 = i * 2 + 1 + 1 by omega]
    simpa using this
theorem flatP_app : ∀ (l m : List (Int × Int)), flatP (l ++ m) = flatP l ++ flatP m
  | [], m => rfl
  | x :: r, m => by rw [List.cons_append, flatP, flatP, flatP_app r m]; rfl
theorem prs_of_owns {w : World} {base : Nat} {e : TypeId} {v : Value} {n : Nat} {l : List (Int × Int)} (h : w.ownsRow base e 2 v n (flatP l)) (hl : l.length ≤ 9223372036854775807) : Prs w v l := by
  have hn : n = l.length := by have := h.1; rw [flatP_len] at this; omega
  subst hn
  rcases h.2 with ⟨rfl, e⟩ | ⟨g, cap, cur, rfl, _, _, hnc, hcm, _, _⟩
  · have : l = [] := List.length_eq_zero_iff.1 e
    subst this
    exact Or.inl ⟨rfl, none, 0, rfl, fun _ => rfl⟩
  · refine Or.inr ⟨hl, g, 0, cap, hnc, by unfold maxLen at hcm; omega, rfl, fun i hi => ?_⟩
    obtain ⟨a, b⟩ := flatP_at l i hi
    rw [Nat.zero_add]
    exact ⟨(h.cellAt _ (by omega)).trans a, (h.cellAt _ (by omega)).trans b⟩
theorem owns_base {w : World} {base base' : Nat} {e : TypeId} {size : Nat} {v : Value} {n : Nat} {xs : List Value} (h : w.ownsRow base e size v n xs) (hb : base' ≤ base) : w.ownsRow base' e size v n xs := by
  refine ⟨h.1, ?_⟩
  rcases h.2 with h0 | ⟨g, cap, cur, h1, h2, h3⟩
  · exact Or.inl h0
  · exact Or.inr ⟨g, cap, cur, h1, Nat.le_trans hb h2, h3⟩
theorem add0' (xb j : Nat) : (⟨xb, 0, none⟩ : Addr).add j = ⟨xb, j, none⟩ := by unfold Addr.add; split <;> simp_all
theorem copyO (W : World) (v : Value) (l : List (Int × Int)) (hv : Prs W v l) (hs : l.length ≤ 100000) (g base : Nat) (hg : Blk W g #[] 30) (hb : base ≤ g) :
    ∃ v' w', (Builtin.append_ #[22, 22] 22 #[.slice (some ⟨g, 0, none⟩) 0 0, v]).run Try.prog W = .ok v' w' ∧ w'.ownsRow base 30 2 v' l.length (flatP l) ∧ Below W.heap.size W w' := by
  obtain ⟨i0, hi, hz0, hz1, hz2⟩ := info_parts infoPair
  have ht : Try.prog.underlying 22 = some (.slice 30) := Try.underlying22
  have hnil : W.ownsRow base 30 2 (.slice (some ⟨g, 0, none⟩) 0 0) 0 (flatP []) := ⟨rfl, Or.inr ⟨g, 0, #[], rfl, hb, hg, Nat.le_refl _, by simp [maxLen], rfl, rfl⟩⟩
  have hgl := hg.lt
  rcases hv with ⟨rfl, p, c, rfl, hpc⟩ | ⟨hl, b, o, c, -, -, rfl, hc⟩
  · refine ⟨.slice (some ⟨g, 0, none⟩) 0 0, W, ?_, hnil, Below.refl _ _⟩
    cases p with
    | none =>
      simp [Builtin.append_, run_underlying ht, sizeOf, typeInfo, hi, Builtin.lenOf, Builtin.firstCells, storeCells]
    | some ad =>
      have := run_append_room_cells (P := Try.prog) (w := W) 22 22 30 i0 ht hi g 0 0 0 ad 0 c [] (by simp) (by intro j u h; simp at h) (by intro u h; cases h) (by omega) (by intro j h; simp at h) (by intro j h; simp at h)
      simpa [World.setCells] using this
  · by_cases h0 : l.length = 0
    · obtain rfl : l = [] := List.length_eq_zero_iff.1 h0
      refine ⟨.slice (some ⟨g, 0, none⟩) 0 0, W, ?_, hnil, Below.refl _ _⟩
      have := run_append_room_cells (P := Try.prog) (w := W) 22 22 30 i0 ht hi g 0 0 0 ⟨b, o, none⟩ 0 c [] (by simp) (by intro j u h; simp at h) (by intro u h; cases h) (by omega) (by intro j h; simp at h) (by intro j h; simp at h)
      simpa [World.setCells] using this
    · obtain ⟨v', w', hr, h1, h2⟩ := run_append_arg_grows (P := Try.prog) (w := W) 22 22 30 i0 (.agg #[.int .i64 0, .int .i64 0]) 2 16 ht hi hz0 hz1 hz2 rfl (by decide) ⟨g, 0, none⟩ 0 0 [] (by simp) (by intro j u h; simp at h) ⟨b, o, none⟩ l.length c (flatP l) (by rw [flatP_len])
        (fun j u hu => by
          have e : (⟨b, o, none⟩ : Addr).add j = ⟨b, o + j, none⟩ := by unfold Addr.add; split <;> simp_all
          rw [e]
          have hj : j < l.length * 2 := by have := (List.getElem?_eq_some_iff.1 hu).1; rwa [flatP_len] at this
          obtain ⟨k, r, hk, hr⟩ : ∃ k r, j = k * 2 + r ∧ r < 2 := ⟨j / 2, j % 2, by omega, Nat.mod_lt _ (by decide)⟩
          have hkl : k < l.length := by omega
          obtain ⟨c0, c1⟩ := hc k hkl
          obtain ⟨f0, f1⟩ := flatP_at l k hkl
          subst hk
          match r, hr with
          | 0, _ =>
            rw [Nat.add_zero] at hu
            rw [Nat.add_zero, c0, ← hu, f0]
          | 1, _ => rw [← Nat.add_assoc, c1, ← hu, f1]) (by omega) (by simp [maxLen]; omega) (by omega)
      rw [List.nil_append, Nat.zero_add] at h1
      exact ⟨v', w', hr, owns_base h1 (by omega), (Below.refl _ _).grown h2 (Nat.le_refl _) (by intro k hk; cases hk)⟩
set_option maxRecDepth 100000 in
theorem copies_own {w : World} {v : Value} {l : List (Int × Int)} (h : Prs w v l) (hs : l.length ≤ 100000) :
    Calls Try.prog 15 #[v] w fun e w' => ∃ u, e = .returned u ∧ w'.ownsRow w.heap.size 30 2 u l.length (flatP l) ∧ Below w.heap.size w w' := by
  obtain ⟨W1, hW1⟩ := named (w.alloc (.cells #[] 30))
  have hb1 : Below w.heap.size w W1 := by rw [hW1]; exact below_alloc1 _
  have kb : Blk W1 w.heap.size #[] 30 := by rw [hW1]; exact Blk.new _ _ _ _ rfl
  obtain ⟨u, w2, hr, hp, hb2⟩ := copyO W1 v l (h.below hb1) hs w.heap.size w.heap.size kb (Nat.le_refl _)
  have HP := Lib.hid hp
  have HB := Lib.hid (bOn6 hb1 hb2)
  have HR := Lib.hid hr
  have e1 := hW1.symm
  clear h hb1 hr hp hb2 hW1 kb
  go_enter Try.func15, Try.ntmps15
  go_wp2_with (at_builtin; refine wpList_append_run (by rfl) _ _ _ rfl _ _ _ rfl rfl HR.out ?_)
  go_ret
  exact ⟨_, rfl, HP.out, HB.out⟩
/-- More edges behind a row of one's own. -/
theorem appP {W : World} {base : Nat} {v : Value} {l news : List (Int × Int)} (h : W.ownsRow base 30 2 v l.length (flatP l)) {g : Nat} (hk : Blk W g (flatP news).toArray 30) (hl : l.length ≤ 100000) (hn : news.length ≤ 100) (hb : base ≤ W.heap.size) :
    ∃ q c w', (Builtin.append_ #[22, 22] 22 #[v, .slice (some ⟨g, 0, none⟩) news.length news.length]).run Try.prog W = .ok (.slice q (l.length + news.length) c) w' ∧ w'.ownsRow base 30 2 (.slice q (l.length + news.length) c) (l ++ news).length (flatP (l ++ news)) ∧ Below base W w' := by
  obtain ⟨i0, hi, hz0, hz1, hz2⟩ := info_parts infoPair
  obtain ⟨v', w', hr, h1, h2, -⟩ := run_append_own (P := Try.prog) W base 22 22 30 i0 (.agg #[.int .i64 0, .int .i64 0]) 2 16 Try.underlying22 hi hz0 hz1 hz2 rfl (by decide) v l.length (flatP l) h ⟨g, 0, none⟩ news.length news.length (flatP news) (flatP_len news)
    (fun j u hj => by
      rw [add0', hk.cell j (by rw [List.getElem?_toArray]; exact hj)]) (by
      intro u hu
      have key : ∀ (l : List (Int × Int)) (u : Value), u ∈ flatP l → u.oneCell' = true := by
        intro l
        induction l with
        | nil => intro u h; cases h
        | cons x r ih =>
          intro u h
          rw [flatP] at h
          rcases List.mem_cons.1 h with rfl | h
          · rfl
          · rcases List.mem_cons.1 h with rfl | h
            · rfl
            · exact ih u h
      exact key news u hu) (by simp [maxLen]; omega) (by omega) hb
  obtain ⟨q, c, rfl⟩ := own_shape h1
  refine ⟨q, c, w', hr, ?_, (Below.refl _ _).grown h2 hb (fun g hg => own_ge h g (by simpa using hg))⟩
  rw [List.length_append, flatP_app]
  exact h1
theorem ret_intD {a b : Int} (h : a = b) : Ending.returned (.int .i64 a) = .returned (.int .i64 b) := by rw [h]
set_option maxHeartbeats 1000000 in
set_option maxRecDepth 100000 in
theorem rplace_any (u : Value) (l : List Int) (a : Int) (w : World) (h : I64s w u l) :
    Calls Try.prog 9 #[u, .int .i64 a] w fun e w' => e = .returned (.int .i64 (placeL l a)) ∧ w = w' := by
  unfold placeL
  rcases h with ⟨rfl, p, c, rfl, -⟩ | ⟨hl, b, o, c, -, -, rfl, hc⟩
  · go_enter Try.func9, Try.ntmps9
    go_wp2
    refine wp_loop_rounds 1 ?_
    rw [rounds_succ]
    go_wp2
    go_ret
    exact ⟨rfl, rfl⟩
  have HC := Lib.hid hc
  clear hc
  go_enter Try.func9, Try.ntmps9
  go_wp2
  go_loop [5] (fun i => ∃ k : Nat, k ≤ l.length ∧ i = .int .i64 k ∧ Hid (∀ y ∈ l.take k, y ≠ a)) (fun i => l.length - (intOf i).toNat)
  case atStart => exact ⟨0, Nat.zero_le _, rfl, Lib.hid (by simp)⟩
  case round =>
    obtain ⟨k, hk, rfl, HN⟩ := hrel
    by_cases hlt : k < l.length
    · have g := HC.out k hlt
      have hb := World.block_lt_of_cell? w _ g
      obtain ⟨A, eA⟩ : ∃ A, l[k] = A := ⟨_, rfl⟩
      have HT := Lib.hid (List.take_succ_eq_append_getElem hlt)
      have HD : Hid (l = l.take k ++ A :: l.drop (k + 1)) := Lib.hid (by rw [← eA, List.getElem_cons_drop, List.take_append_drop])
      rw [eA] at g HT
      clear eA
      by_cases hv : A = a
      · have hv' : (A == a) = true := by simpa using hv
        have HR : Hid (placeFrom 0 l a = (k : Int)) := Lib.hid (by
          conv => lhs; rw [HD.out]
          rw [placeFrom_at _ _ _ _ _ HN.out hv, List.length_take, Nat.min_eq_left (by omega), Int.zero_add])
        go_wp2
        go_ret
        exact ⟨ret_intD HR.out.symm, rfl⟩
      · have hv' : (A == a) = false := by simpa using hv
        have HN' : Hid (∀ y ∈ l.take (k + 1), y ≠ a) := Lib.hid (by
          rw [HT.out]
          intro y hy
          rcases List.mem_append.1 hy with h | h
          · exact HN.out y h
          · rw [List.mem_singleton.1 h]; exact hv)
        clear HN HT HD
        go_wp2
        go_round
        case rel => exact ⟨k + 1, by omega, by go_num, HN'⟩
        case measure => simp [intOf]; omega
    · have HR : Hid (placeFrom 0 l a = -1) := Lib.hid (placeFrom_none _ _ _ (by have := HN.out; rwa [List.take_of_length_le (by omega)] at this))
      go_wp2
      go_ret
      exact ⟨ret_intD HR.out.symm, rfl⟩

theorem placeL_mem (l : List Int) (a : Int) : 0 ≤ placeL l a ↔ a ∈ l := by
  constructor
  · intro h
    refine Classical.byContradiction fun hn => ?_
    have := placeFrom_none 0 l a (fun y hy e => hn (e ▸ hy))
    unfold placeL at h
    omega
  · intro h
    unfold placeL
    have key : ∀ (l : List Int) (k : Int), 0 ≤ k → a ∈ l → 0 ≤ placeFrom k l a := by
      intro l
      induction l with
      | nil => intro k _ h; cases h
      | cons y s ih =>
        intro k hk h
        unfold placeFrom
        split
        · exact hk
        · next hne =>
          rcases List.mem_cons.1 h with h | h
          · exact absurd h.symm hne
          · exact ih (k + 1) (by omega) h
    exact key l 0 (Int.le_refl _) h
theorem rcoord_is (x : Int) (b : Bool) (w : World) (h : coordB x = b) : Calls Try.prog 16 #[.int .i64 x] w fun e w' => e = .returned (.bool b) ∧ w = w' := by
  unfold coordB at h
  by_cases h0 : -1048576 ≤ x
  · by_cases h1 : x ≤ 1048576
    · obtain rfl : b = true := by rw [← h]; simp [h0, h1]
      clear h
      have d0 : decide (-1048576 ≤ x) = true := by simpa using h0
      go_enter Try.func16, Try.ntmps16
      go_wp2
      go_ret
      exact ⟨rfl, rfl⟩
    · obtain rfl : b = false := by rw [← h]; simp; omega
      clear h
      have d0 : decide (-1048576 ≤ x) = true := by simpa using h0
      have d1 : decide (x ≤ 1048576) = false := by simpa using h1
      go_enter Try.func16, Try.ntmps16
      go_wp2
      go_ret
      exact ⟨rfl, rfl⟩
  · obtain rfl : b = false := by rw [← h]; simp; omega
    clear h
    have d0 : decide (-1048576 ≤ x) = false := by simpa using h0
    go_enter Try.func16, Try.ntmps16
    go_wp2
    go_ret
    exact ⟨rfl, rfl⟩
/-- Points that may be. -/
def nearB (l : List (Int × Int)) : Bool := (l.all fun x => coordB x.1 && coordB x.2) && decide (l.length ≤ 120)
theorem nearB_iff (l : List (Int × Int)) : nearB l = true ↔ (∀ x ∈ l, coordB x.1 = true ∧ coordB x.2 = true) ∧ l.length ≤ 120 := by
  simp [nearB]
theorem nearB_no {l : List (Int × Int)} {k : Nat} (hk : k < l.length) (h : coordB l[k].1 = false ∨ coordB l[k].2 = false) : nearB l = false := by
  rw [← Bool.not_eq_true, nearB_iff]
  intro hn
  obtain ⟨a, b⟩ := hn.1 _ (List.getElem_mem hk)
  rcases h with h | h
  · rw [h] at a; cases a
  · rw [h] at b; cases b
theorem coordB_in {x : Int} (h : coordB x = true) : -1048576 ≤ x ∧ x ≤ 1048576 := by simpa [coordB] using h
theorem near_small {l : List (Int × Int)} (h : nearB l = true) : SmallL l ∧ l.length ≤ 120 := by
  obtain ⟨h1, h2⟩ := (nearB_iff l).1 h
  refine ⟨fun x hx => ?_, h2⟩
  have a := coordB_in (h1 x hx).1
  have b := coordB_in (h1 x hx).2
  exact ⟨⟨by omega, by omega⟩, by omega, by omega⟩
set_option maxHeartbeats 4000000 in
theorem near_is {w : World} {v : Value} {l : List (Int × Int)} (h : Prs w v l) {r : Bool} (hr : nearB l = r) :
    Calls Try.prog 7 #[v] w fun e w' => e = .returned (.bool r) ∧ w = w' := by
  obtain ⟨q, c, rfl⟩ := h.shape
  have hle := h.le
  have HV := Lib.hid h
  have HR := Lib.hid hr
  clear h hr
  go_enter Try.func7, Try.ntmps7
  go_wp2_with fail
  go_loop [3] (fun iv => ∃ k : Nat, k ≤ l.length ∧ iv = .int .i64 k ∧ Hid (∀ i (h : i < l.length), i < k → coordB l[i].1 = true ∧ coordB l[i].2 = true)) (fun iv => l.length - (intOf iv).toNat)
  case atStart => exact ⟨0, Nat.zero_le _, rfl, Lib.hid (fun i h h2 => by omega)⟩
  case round =>
    obtain ⟨k, hk, rfl, HA⟩ := hrel
    by_cases hlt : k < l.length
    · have hki : (k : Int) < (l.length : Int) := by omega
      obtain ⟨bb, bo, rfl, b0, b1⟩ := HV.out.at (k := k) hlt
      have bl := World.block_lt_of_cell? w _ b0
      obtain ⟨x, hx⟩ : ∃ x, l[k] = x := ⟨_, rfl⟩
      have HX := Lib.hid hx
      rw [hx] at b0 b1
      clear hx
      cases c1 : coordB x.1 with
      | false =>
        have HN : Hid (r = false) := Lib.hid (by rw [← HR.out]; exact nearB_no hlt (Or.inl (by rw [HX.out]; exact c1)))
        have C1 := Lib.hid c1
        clear c1
        go_wp2_with fail
        refine (rcoord_is _ _ _ C1.out).mono ?_
        rintro e w1 ⟨rfl, rfl⟩
        go_wp2_with fail
        go_ret
        exact ⟨by rw [HN.out]; rfl, rfl⟩
      | true =>
        have C1 := Lib.hid c1
        clear c1
        cases c2 : coordB x.2 with
        | false =>
          have HN : Hid (r = false) := Lib.hid (by rw [← HR.out]; exact nearB_no hlt (Or.inr (by rw [HX.out]; exact c2)))
          have C2 := Lib.hid c2
          clear c2
          go_wp2_with fail
          refine (rcoord_is _ _ _ C1.out).mono ?_
          rintro e w1 ⟨rfl, rfl⟩
          go_wp2_with fail
          refine (rcoord_is _ _ _ C2.out).mono ?_
          rintro e w1 ⟨rfl, rfl⟩
          go_wp2_with fail
          go_ret
          exact ⟨by rw [HN.out]; rfl, rfl⟩
        | true =>
          have C2 := Lib.hid c2
          clear c2
          have HA2 : Hid (∀ i (h : i < l.length), i < k + 1 → coordB l[i].1 = true ∧ coordB l[i].2 = true) := Lib.hid (fun i h h2 => by
            by_cases e : i = k
            · subst e
              rw [HX.out]
              exact ⟨C1.out, C2.out⟩
            · exact HA.out i h (by omega))
          clear HA
          go_wp2_with fail
          refine (rcoord_is _ _ _ C1.out).mono ?_
          rintro e w1 ⟨rfl, rfl⟩
          go_wp2_with fail
          refine (rcoord_is _ _ _ C2.out).mono ?_
          rintro e w1 ⟨rfl, rfl⟩
          go_wp2_with fail
          go_round
          case rel => exact ⟨k + 1, hlt, by go_num, HA2⟩
          case measure => simp [intOf]; omega
    · obtain rfl : k = l.length := by omega
      have HN : Hid (r = decide ((l.length : Int) ≤ 120)) := Lib.hid (by
        rw [← HR.out]
        have h1 : (l.all fun x => coordB x.1 && coordB x.2) = true := by
          rw [List.all_eq_true]
          intro x hx
          obtain ⟨i, hi, rfl⟩ := List.getElem_of_mem hx
          obtain ⟨a, b⟩ := HA.out i hi hi
          rw [a, b]
          rfl
        unfold nearB
        rw [h1, Bool.true_and]
        by_cases h2 : l.length ≤ 120
        · rw [decide_eq_true h2, decide_eq_true (by omega)]
        · rw [decide_eq_false h2, decide_eq_false (by omega)])
      clear HA
      go_wp2_with fail
      go_ret
      exact ⟨by rw [HN.out]; rfl, rfl⟩
end Go.Proofs.Ytleheaffipokfaa
