/-
  The ring's own least walks: plain mathematics, no program stands here.
-/
import Derived.Test.YtlfihaajnjeaeaaK6
import Derived.Test.YtlfihaajnjeaeaaE6
import Derived.Test.YtlfihaajnjeaeaaK7
namespace Go.Proofs.Ytlfihaajnjeaeaa
open HP

abbrev inf8 : Int := 1152921504606846976
theorem all2 {P : Nat → Nat → Prop} {N : Nat} (h : ∀ a, a < N → ∀ b, b < N → P a b) : ∀ a b, a < N → b < N → P a b := fun a b ha hb => h a ha b hb
theorem ring8_from0 : FromP ringN 0 [0, 21, 53, 45] := by
  refine ⟨rfl, Or.inl ⟨0, rfl, by decide, by decide, by decide, by decide, ?_, all2 (by decide)⟩⟩
  have a1 : Att (hN ringN) 4 0 1 (addC 0 (hN ringN 0 1)) := .step .start (by decide)
  have a2 : Att (hN ringN) 4 0 2 (addC (addC 0 (hN ringN 0 1)) (hN ringN 1 2)) := .step a1 (by decide)
  have a3 : Att (hN ringN) 4 0 3 (addC 0 (hN ringN 0 3)) := .step .start (by decide)
  intro b hb _
  match b, hb with
  | 0, _ => exact .start
  | 1, _ => exact a1
  | 2, _ => exact a2
  | 3, _ => exact a3
theorem ring8_from3 : FromP ringN 3 [inf8, inf8, inf8, 0] := by
  refine ⟨rfl, Or.inl ⟨3, rfl, by decide, by decide, by decide, by decide, ?_, all2 (by decide)⟩⟩
  intro b hb hl
  match b, hb with
  | 0, _ => exact absurd hl (by decide)
  | 1, _ => exact absurd hl (by decide)
  | 2, _ => exact absurd hl (by decide)
  | 3, _ => exact .start
theorem ring8_to2 : ToP ringN 2 [53, 32, 0, inf8] := by
  refine ⟨rfl, Or.inl ⟨2, rfl, by decide, by decide, by decide, by decide, ?_, all2 (by decide)⟩⟩
  have a1 : BAtt (hN ringN) 4 2 1 (addC 0 (hN ringN 1 2)) := .step .start (by decide)
  have a0 : BAtt (hN ringN) 4 2 0 (addC (addC 0 (hN ringN 1 2)) (hN ringN 0 1)) := .step a1 (by decide)
  intro b hb hl
  match b, hb with
  | 0, _ => exact a0
  | 1, _ => exact a1
  | 2, _ => exact .start
  | 3, _ => exact absurd hl (by decide)
theorem ring8_whole : LeastOf (Ins (fun a b => ringN.turn a b) (wN ringN) (insB ringN [true, true, true]) 4 0 2) 23 := by
  refine ins_of (d := fun i => [63, 21, 53, 45].getD i inf8) (by decide) (all2 (by decide)) (by decide) (fun _ => ?_) (by decide) (by decide)
  have a1 : IAt (fun a b => ringN.turn a b) (wN ringN) (insB ringN [true, true, true]) 4 0 1 (addC (ringN.turn 0 1) (wN ringN 1)) := .start (by decide) (by decide)
  exact .more a1
theorem ring8_shut : LeastOf (Ins (fun a b => ringN.turn a b) (wN ringN) (insB ringN [true, true]) 4 0 2) inf8 := by
  refine ins_of (d := fun i => [inf8, inf8, inf8, 45].getD i inf8) (by decide) (all2 (by decide)) (by decide) (fun h => absurd h (by decide)) (by decide) (by decide)
theorem ring8_cost : ringN.cost [0, 3] = 45 := by decide
/-- There is but one least walk from 0 to 2. -/
theorem ring8_path {B : List Int} {r : List Nat} (h : PathR (onwL ringN) 0 [0, 21, 53, 45] B 2 r) : zL r.reverse = [0, 1, 2] := by
  have back : ∀ {a b : Nat} {d : Int}, (b, d) ∈ onwL ringN a → a < 4 → (b = 2 → a = 1) ∧ (b = 1 → a = 0) := by
    intro a b d hm ha
    obtain ⟨h1, h2, -⟩ := onw_mem.1 hm
    simp only [] at h1 h2
    constructor
    · rintro rfl
      match a, ha with
      | 0, _ => revert h2; decide
      | 1, _ => rfl
      | 2, _ => revert h2; decide
      | 3, _ => revert h2; decide
    · rintro rfl
      match a, ha with
      | 0, _ => rfl
      | 1, _ => revert h2; decide
      | 2, _ => revert h2; decide
      | 3, _ => revert h2; decide
  have hok : StepsOK (onwL ringN) 4 := onw_ok ringN
  cases h with
  | @step a b r d h1 hb hd hx hB =>
    have ha := (h1.lt hok (by decide)).1
    obtain rfl := (back hd ha).1 rfl
    cases h1 with
    | @step a b r d h2 hb2 hd2 hx2 hB2 =>
      have ha2 := (h2.lt hok (by decide)).1
      obtain rfl := (back hd2 ha2).2 rfl
      cases h2 with
      | start _ => rfl
      | @step a b r d h3 hb3 hd3 hx3 hB3 =>
        exfalso
        obtain ⟨q, rfl⟩ := h3.head
        have hmem : ∀ {b : Nat} {r : List Nat}, PathR (onwL ringN) 0 [0, 21, 53, 45] B b r → 0 ∈ r := by
          intro b r h
          induction h with
          | start _ => simp
          | step _ _ _ _ _ ih => simp [ih]
        exact hb3 (hmem h3)

theorem ring8_q02 {l : List Int} {c : Int} (h : PathQ ringN 0 2 l c) : l = [0, 1, 2] ∧ c = 53 := by
  obtain ⟨C, hF, h⟩ := h
  obtain rfl := hF.uniq ring8_from0
  rcases h with ⟨k, j, hk, hj, -, -, -, -, hc, B, r, -, hr, rfl⟩ | ⟨h1, -, -⟩
  · obtain rfl : k = 0 := by omega
    obtain rfl : j = 2 := by omega
    exact ⟨ring8_path hr, hc⟩
  · exact absurd (h1 2 rfl (by decide)) (by decide)
theorem ring8_q30 {l : List Int} {c : Int} (h : PathQ ringN 3 0 l c) : l = [] ∧ c = 1152921504606846976 := by
  obtain ⟨C, hF, h⟩ := h
  obtain rfl := hF.uniq ring8_from3
  rcases h with ⟨k, j, hk, hj, -, -, -, hlt, -⟩ | ⟨-, h1, h2⟩
  · obtain rfl : j = 0 := by omega
    exact absurd hlt (by decide)
  · exact ⟨h1, h2⟩

end Go.Proofs.Ytlfihaajnjeaeaa

/-
  The law's own graph of a net, its small nets; its own sample of known answers.
-/
namespace Go.Proofs.Ytlfihaajnjeaeaa
open HP Go.RowKit

/-- A net that may be, and over which all walks are soon looked at. -/
def smallN (n : NetD) : Bool := decide (n.v.length ≤ 24) && (decide (n.a.length ≤ 90) && mayN n)
theorem small_gr {n : NetD} (hs : smallN n = true) (hin : InNet n) : GrN n ∧ NetFew n ∧ chkN n = fltOK ∧ n.a.length ≤ 90 := by
  unfold smallN at hs
  simp only [Bool.and_eq_true, decide_eq_true_eq] at hs
  obtain ⟨h1, h2, h3⟩ := may_of hs.2.2
  exact ⟨⟨h3, h1, hin⟩, h1, h2, hs.2.1⟩
section
variable {w0 w : World} {n : NetD} {v : Value}

set_option maxHeartbeats 2000000 in
set_option maxRecDepth 100000 in
theorem vSmall (h : NetV w v n) (hin : InNet n) {B : Bool} (hB : smallN n = B) : Calls Try.prog 7 #[v] w fun e w' => e = .returned (.bool B) ∧ Below w.heap.size w w' := by
  obtain ⟨vq, aq, tq, vc, ac, tc, rfl, -⟩ := h.shape
  unfold smallN at hB
  have HB := Lib.hid hB
  have HIN := Lib.hid hin
  have HV := Lib.hid h
  have h24 : decide (n.v.length ≤ 24) = true ∨ decide (n.v.length ≤ 24) = false := by cases decide (n.v.length ≤ 24) <;> simp
  have h90 : decide (n.a.length ≤ 90) = true ∨ decide (n.a.length ≤ 90) = false := by cases decide (n.a.length ≤ 90) <;> simp
  obtain ⟨M, hM⟩ : ∃ M, mayN n = M := ⟨_, rfl⟩
  have HM := Lib.hid hM
  rw [hM] at HB
  clear hB hin h hM
  obtain ⟨W0, hW0⟩ := named (w.alloc (.cells #[.slice vq n.v.length vc, .slice aq n.a.length ac, .slice tq n.t.length tc] 26))
  have hb0 : Below w.heap.size w W0 := by rw [hW0]; exact below_alloc1 _
  have k0 : Blk W0 w.heap.size #[.slice vq n.v.length vc, .slice aq n.a.length ac, .slice tq n.t.length tc] 26 := by rw [hW0]; exact Blk.new _ _ _ _ rfl
  obtain ⟨x0, x1, x2, -, -, -⟩ := k0.o3
  have l0 := k0.lt
  have HB0 := Lib.hid hb0
  have HV0 := Lib.hid (HV.out.below hb0)
  have e0 := hW0.symm
  clear hb0 k0 hW0
  rcases h24 with h24 | h24
  · rcases h90 with h90 | h90
    · have HE : Hid (M = B) := Lib.hid (by have := HB.out; rw [h24, h90] at this; simpa using this)
      have h24' : decide ((n.v.length : Int) ≤ 24) = true := decide_eq_true (by have := of_decide_eq_true h24; omega)
      have h90' : decide ((n.a.length : Int) ≤ 90) = true := decide_eq_true (by have := of_decide_eq_true h90; omega)
      go_enter Try.func7, Try.ntmps7
      go_wp2_with fail
      clear e0 x0 x1 x2
      refine (vmay HV0.out HIN.out HM.out).mono ?_
      rintro e w2 ⟨rfl, hb2⟩
      have HB2 := Lib.hid (bOn6 HB0.out hb2)
      clear hb2
      go_wp2_with fail
      go_ret
      exact ⟨ret_bool HE.out, HB2.out⟩
    · have HE : Hid (B = false) := Lib.hid (by have := HB.out; rw [h24, h90] at this; exact this.symm)
      have h24' : decide ((n.v.length : Int) ≤ 24) = true := decide_eq_true (by have := of_decide_eq_true h24; omega)
      have h90' : decide ((n.a.length : Int) ≤ 90) = false := decide_eq_false (by have := of_decide_eq_false h90; omega)
      go_enter Try.func7, Try.ntmps7
      go_wp2_with fail
      go_ret
      exact ⟨ret_bool HE.out.symm, HB0.out⟩
  · have HE : Hid (B = false) := Lib.hid (by have := HB.out; rw [h24] at this; exact this.symm)
    have h24' : decide ((n.v.length : Int) ≤ 24) = false := decide_eq_false (by have := of_decide_eq_false h24; omega)
    go_enter Try.func7, Try.ntmps7
    go_wp2_with fail
    go_ret
    exact ⟨ret_bool HE.out.symm, HB0.out⟩

set_option maxHeartbeats 2000000 in
set_option maxRecDepth 100000 in
theorem vMade (hb0 : Below w0.heap.size w0 w) (h : NetV w v n) (hn : GrN n) (hok : chkN n = fltOK) :
    Calls Try.prog 8 #[v] w fun e w' => ∃ p va vt, e = .returned (gp p) ∧ Gr1 w0 w' p n va vt ∧ Below w.heap.size w w' := by
  obtain ⟨vq, aq, tq, vc, ac, tc, rfl, -⟩ := h.shape
  have HV := Lib.hid h
  have HN := Lib.hid hn
  have HO := Lib.hid hok
  have HB := Lib.hid hb0
  clear h hn hok hb0
  obtain ⟨W0, hW0⟩ := named (w.alloc (.cells #[.slice vq n.v.length vc, .slice aq n.a.length ac, .slice tq n.t.length tc] 26))
  have hb1 : Below w.heap.size w W0 := by rw [hW0]; exact below_alloc1 _
  have k0 : Blk W0 w.heap.size #[.slice vq n.v.length vc, .slice aq n.a.length ac, .slice tq n.t.length tc] 26 := by rw [hW0]; exact Blk.new _ _ _ _ rfl
  obtain ⟨x0, x1, x2, -, -, -⟩ := k0.o3
  have l0 := k0.lt
  have HB1 := Lib.hid hb1
  have HV0 := Lib.hid (HV.out.below hb1)
  have e0 := hW0.symm
  clear hb1 k0 hW0
  go_enter Try.func8, Try.ntmps8
  go_wp2_with fail
  clear e0 x0 x1 x2
  refine (vtoF HV0.out HN.out.few).mono ?_
  rintro e w2 ⟨v2, rfl, hv2, hb2⟩
  have HV2 := Lib.hid hv2
  have HB2 := Lib.hid (bOn6 HB1.out hb2)
  clear hv2 hb2
  go_wp2_with fail
  refine (vNewG (w0 := w0) (HB.out.trans (HB2.out.mono HB.out.size)) HV2.out HN.out HO.out).mono ?_
  rintro e w3 ⟨p, va, vt, rfl, hG, hb3⟩
  have HG := Lib.hid hG
  have HB3 := Lib.hid (bOn6 HB2.out hb3)
  clear hG hb3
  go_wp2_with fail
  go_ret
  exact ⟨p, va, vt, rfl, HG.out, HB3.out⟩
/-- The cells of a row that came in or was made. -/
theorem I64s.len64 {l : List Int} (h : I64s w v l) : l.length ≤ 9223372036854775807 := by
  rcases h with ⟨rfl, _⟩ | ⟨h, _⟩
  · simp
  · exact h
theorem lit_bools (w : World) (l : List Bool) (hl : l.length ≤ 1000) (n : Nat) (hn : l.length = n) : Bools (w.alloc (.cells (l.map Value.bool).toArray 4)) (.slice (some ⟨w.heap.size, 0, none⟩) n n) l := by
  subst hn
  refine Or.inr ⟨by omega, w.heap.size, 0, l.length, Nat.le_refl _, rfl, fun i hi => ?_⟩
  rw [Nat.zero_add]
  exact (Blk.new w _ _ _ rfl).cell i (by simp [hi])
theorem lit_i64 (w : World) (l : List Int) (hl : l.length ≤ 1000) (n : Nat) (hn : l.length = n) (t : TypeId) : I64s (w.alloc (.cells (l.map (Value.int .i64)).toArray t)) (.slice (some ⟨w.heap.size, 0, none⟩) n n) l := by
  subst hn
  refine Or.inr ⟨by omega, w.heap.size, 0, l.length, Nat.le_refl _, by omega, rfl, fun i hi => ?_⟩
  rw [Nat.zero_add]
  exact (Blk.new w _ _ _ rfl).cell i (by simp [hi])
theorem vsameC {l k : List Int} {u : Value} (h : I64s w v l) (h2 : I64s w u k) {B : Bool} (hB : decide (l = k) = B) : Calls Try.prog 13 #[v, u] w fun e w' => e = .returned (.bool B) ∧ Below w.heap.size w w' := by
  subst hB
  exact samecosts_any v u l k w h h2

set_option maxHeartbeats 8000000 in
set_option maxRecDepth 100000 in
theorem known8_any (w0 : World) : Calls Try.prog 6 #[] w0 fun e w' => e = .returned (.bool true) ∧ Below w0.heap.size w0 w' := by
  go_enter Try.func6, Try.ntmps6
  go_wp2_with fail
  refine (ring6_any w0).mono ?_
  rintro e w1 ⟨v1, rfl, hv1, hb1⟩
  have V1 := Lib.hid hv1
  have B1 := Lib.hid hb1
  clear hv1 hb1
  go_wp2_with fail
  refine (vMade B1.out V1.out ringN_gr ringN_ok).mono ?_
  rintro e w2 ⟨p, va, vt, rfl, hG, hb⟩
  have G := Lib.hid hG
  clear hG hb V1 B1
  go_wp2_with fail
  refine (wFrom_is G.out.g G.out.n 0 (by omega) (by omega)).mono ?_
  rintro e w3 ⟨dv, C, rfl, hd, hF, hb⟩
  obtain rfl := hF.uniq ring8_from0
  have D3 := Lib.hid hd
  have G3 := Lib.hid (G.out.old hb)
  clear hd hF hb G
  go_wp2_with fail
  refine (wpath_is G3.out.g G3.out.n 0 2 (by omega) (by omega) (by omega) (by omega)).mono ?_
  rintro e w4 ⟨lv, l, c, rfl, hl, hQ, hb⟩
  obtain ⟨rfl, rfl⟩ := ring8_q02 hQ
  have D4 := Lib.hid (D3.out.below hb)
  have G4 := Lib.hid (G3.out.old hb)
  have L4 := Lib.hid hl
  clear hl hQ hb D3 G3
  go_wp2_with fail
  refine (wpath_is G4.out.g G4.out.n 3 0 (by omega) (by omega) (by omega) (by omega)).mono ?_
  rintro e w5 ⟨mv, m, c, rfl, hm, hQ, hb⟩
  obtain ⟨rfl, rfl⟩ := ring8_q30 hQ
  obtain ⟨mq, mc, rfl⟩ := hm.shape
  have D5 := Lib.hid (D4.out.below hb)
  have G5 := Lib.hid (G4.out.old hb)
  have L5 := Lib.hid (L4.out.below hb)
  clear hm hQ hb D4 G4 L4
  go_wp2_with fail
  have hbn := below_alloc1 (w := w5) (.cells #[.int .i64 0, .int .i64 21, .int .i64 53, .int .i64 45] 2)
  have G6 := Lib.hid (G5.out.old hbn)
  have L6 := Lib.hid (L5.out.below hbn)
  have D6 := Lib.hid (D5.out.below hbn)
  clear hbn G5 L5 D5
  refine (vsameC (B := true) D6.out (lit_i64 w5 [0, 21, 53, 45] (by decide) 4 rfl _) (by decide)).mono ?_
  rintro e w6 ⟨rfl, hb⟩
  have G7 := Lib.hid (G6.out.old hb)
  have L7 := Lib.hid (L6.out.below hb)
  clear hb G6 L6 D6
  go_wp2_with fail
  have hbn := below_alloc1 (w := w6) (.cells #[.int .i64 0, .int .i64 1, .int .i64 2] 3)
  have G8 := Lib.hid (G7.out.old hbn)
  have L8 := Lib.hid (L7.out.below hbn)
  clear hbn G7 L7
  refine (vsameI (B := true) L8.out (lit_i64 w6 [0, 1, 2] (by decide) 3 rfl _) (by decide)).mono ?_
  rintro e w7 ⟨rfl, hb⟩
  have G9 := Lib.hid (G8.out.old hb)
  clear hb G8 L8
  go_wp2_with fail
  have hbn := below_alloc1 (w := w7) (.cells #[.bool true, .bool true, .bool true] 4)
  have G10 := Lib.hid (G9.out.old hbn)
  clear hbn G9
  refine (winside_is (k := 0) (j := 2) G10.out.g G10.out.n (lit_bools w7 [true, true, true] (by decide) 3 rfl) (by decide) (by decide)).mono ?_
  rintro e w8 ⟨x, rfl, hx, hb⟩
  obtain rfl := hx.uniq ring8_whole
  have G11 := Lib.hid (G10.out.old hb)
  clear hb hx G10
  go_wp2_with fail
  have hbn := below_alloc1 (w := w8) (.cells #[.bool true, .bool true] 4)
  have G12 := Lib.hid (G11.out.old hbn)
  clear hbn G11
  refine (winside_is (k := 0) (j := 2) G12.out.g G12.out.n (lit_bools w8 [true, true] (by decide) 2 rfl) (by decide) (by decide)).mono ?_
  rintro e w9 ⟨x, rfl, hx, hb⟩
  obtain rfl : x = 1152921504606846976 := hx.uniq ring8_shut
  have G13 := Lib.hid (G12.out.old hb)
  clear hb hx G12
  go_wp2_with fail
  have hbn := below_alloc1 (w := w9) (.cells #[.int .i64 0, .int .i64 3] 3)
  have G14 := Lib.hid (G13.out.old hbn)
  clear hbn G13
  refine (wcost_is G14.out.g G14.out.n (lit_i64 w9 [0, 3] (by decide) 2 rfl _) ring8_cost).mono ?_
  rintro e w10 ⟨rfl, hb⟩
  have G15 := Lib.hid (G14.out.old hb)
  clear hb G14
  go_wp2_with fail
  refine (wTo_is G15.out.g G15.out.n 2 (by omega) (by omega)).mono ?_
  rintro e w11 ⟨tv, C, rfl, ht, hT, hb⟩
  obtain rfl := hT.uniq ring8_to2
  obtain ⟨tq, tc, rfl⟩ := ht.shape
  have G16 := Lib.hid (G15.out.old hb)
  clear ht hT hb G15
  go_wp2_with fail
  refine (wTo_is G16.out.g G16.out.n 2 (by omega) (by omega)).mono ?_
  rintro e w12 ⟨tv, C, rfl, ht, hT, hb⟩
  obtain rfl := hT.uniq ring8_to2
  obtain ⟨tq2, tc2, rfl⟩ := ht.shape
  obtain ⟨b, o, rfl, hc0⟩ := ht.at (k := 0) (by decide)
  have hblt := World.block_lt_of_cell? w12 _ hc0
  rw [Nat.add_zero] at hc0
  simp only [List.getElem_cons_zero] at hc0
  have G17 := Lib.hid (G16.out.old hb)
  clear ht hT hb G16
  go_wp2_with fail
  clear hc0
  refine (wreach_is G17.out.g G17.out.n 3 (by omega) (by omega)).mono ?_
  rintro e w13 ⟨rv, C, rfl, hr, hF, hb⟩
  obtain rfl := hF.uniq ring8_from3
  have G18 := Lib.hid (G17.out.old hb)
  rcases hr with ⟨h1, -⟩ | ⟨-, rb, ro, rc, -, rfl, hrc⟩
  · cases h1
  · have hr3 := hrc 3 (by decide)
    have hr4 : w13.cell? ⟨rb, ro + 3, none⟩ = some (.bool true) := hr3
    have hrl := World.block_lt_of_cell? w13 _ hr4
    have HLEN : Hid ((reachL [inf8, inf8, inf8, 0]).length = 4) := Lib.hid rfl
    rw [HLEN.out]
    clear hrc hr3 hF hb G17
    go_wp2_with fail
    go_ret
    exact ⟨rfl, G18.out.b⟩
end

end Go.Proofs.Ytlfihaajnjeaeaa
