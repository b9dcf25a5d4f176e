/-
  The program's walks: its small functions.
-/
import Derived.Test.YtlfihaajnjeaeaaGreatDoorE5
import Derived.Test.YtlfihaajnjeaeaaGreatDoorK2
import Derived.Test.YtlfihaajnjeaeaaGreatDoorA2
import Derived.BigQuiet
import Derived.Laws.AppendOwn
namespace Go.Proofs.YtlfihaajnjeaeaaGreatDoor
open HP Go.RowKit

/-- The value v is a row of marks. -/
def Bools (w : World) (v : Value) (l : List Bool) : Prop :=
  (l = [] ∧ ∃ p c, v = .slice p 0 c) ∨ (l.length ≤ 9223372036854775807 ∧ ∃ b o c, l.length ≤ c ∧ v = .slice (some ⟨b, o, none⟩) l.length c ∧ ∀ i (h : i < l.length), w.cell? ⟨b, o + i, none⟩ = some (.bool l[i]))
theorem Bools.below {w w' : World} {v : Value} {l : List Bool} (h : Bools w v l) (hb : Below w.heap.size w w') : Bools w' v l := by
  rcases h with h | ⟨hl, b, o, c, h1, rfl, hc⟩
  · exact Or.inl h
  · exact Or.inr ⟨hl, b, o, c, h1, rfl, fun i hi => (hb.cell (World.block_lt_of_cell? w _ (hc i hi))).trans (hc i hi)⟩
theorem Bools.shape {w : World} {v : Value} {l : List Bool} (h : Bools w v l) : ∃ q c, v = .slice q l.length c := by
  rcases h with ⟨rfl, p, c, rfl⟩ | ⟨_, b, o, c, _, rfl, _⟩
  · exact ⟨p, c, rfl⟩
  · exact ⟨_, c, rfl⟩
section
variable {P : Nat → Prop} {w : World} {p : Nat} {n : NetD} {va vt : Value}
theorem vWt (h : GraphAt P w p n va vt) (a : Int) {X : Int} (hX : wt n a = X) : Calls Tryz.prog 65 #[gp p, .int .i64 a] w fun e w' => e = .returned (.int .i64 X) ∧ Below w.heap.size w w' := by
  cases hT : n.there a with
  | false =>
    rw [wt_not hT] at hX
    subst hX
    exact vWeight0 h hT
  | true =>
    obtain ⟨k, rfl, hk⟩ := there_of hT
    refine vWeight h hk ?_
    rw [← hX, wt_at hk]
    unfold wN
    rw [NetGood.arc_at k hk]

set_option maxHeartbeats 1000000 in
theorem wopen_is (h : GraphAt P w p n va vt) (a : Int) {B : Bool} (hB : (wt n a != 1152921504606846976) = B) : Calls Tryz.prog 26 #[gp p, .int .i64 a] w fun e w' => e = .returned (.bool B) ∧ Below w.heap.size w w' := by
  obtain ⟨X, hX⟩ : ∃ X, wt n a = X := ⟨_, rfl⟩
  rw [hX] at hB
  have HX := Lib.hid hX
  clear hX
  go_enter Tryz.func26, Tryz.ntmps26
  go_wp2_with fail
  refine (vWt h a HX.out).mono ?_
  rintro e w' ⟨rfl, hb⟩
  go_wp2_with fail
  go_ret
  exact ⟨rfl, hb⟩

set_option maxHeartbeats 1000000 in
theorem wonto_is (h : GraphAt P w p n va vt) (hn : GrN n) (a b : Int) {X : Int} (hX : ontoZ n a b = X) : Calls Tryz.prog 28 #[gp p, .int .i64 a, .int .i64 b] w fun e w' => e = .returned (.int .i64 X) ∧ Below w.heap.size w w' := by
  have t0 := turn_bd hn.good a b
  have w0 := wt_bd hn.good b
  unfold ontoZ at hX
  obtain ⟨T, hT⟩ : ∃ T, n.turn a b = T := ⟨_, rfl⟩
  obtain ⟨V, hV⟩ : ∃ V, wt n b = V := ⟨_, rfl⟩
  rw [hT] at hX t0
  rw [hV] at hX w0
  have HX := Lib.hid hX
  have HT := Lib.hid hT
  have HV := Lib.hid hV
  have HN := Lib.hid hn
  have HG := Lib.hid h
  clear hX hT hV hn h
  go_enter Tryz.func28, Tryz.ntmps28
  go_wp2_with fail
  refine (vTurnG HG.out HN.out HT.out).mono ?_
  rintro e w1 ⟨rfl, hb1⟩
  have HB1 := Lib.hid hb1
  have HG1 := Lib.hid (HG.out.old hb1)
  clear hb1
  go_wp2_with fail
  refine (vWt HG1.out b HV.out).mono ?_
  rintro e w2 ⟨rfl, hb2⟩
  have HB2 := Lib.hid (bOn6 HB1.out hb2)
  clear hb2
  go_wp2_with fail
  refine (add_any T V _ (by omega) (by omega) (by omega) (by omega)).mono ?_
  rintro e w3 ⟨rfl, rfl⟩
  go_wp2_with fail
  go_ret
  exact ⟨ret_int HX.out, HB2.out⟩

set_option maxHeartbeats 1000000 in
theorem wmarked_is {u : Value} {l : List Bool} (h : Bools w u l) (j : Nat) {B : Bool} (hB : l.getD j false = B) : Calls Tryz.prog 81 #[u, .int .i64 j] w fun e w' => e = .returned (.bool B) ∧ w = w' := by
  obtain ⟨q, c, rfl⟩ := h.shape
  by_cases hlt : j < l.length
  · rcases h with ⟨rfl, -⟩ | ⟨hl, b, o, c', -, e, hc⟩
    · simp at hlt
    · injection e with e1
      subst e1
      have hcell := hc j hlt
      have hB' : l[j] = B := by rw [← hB]; simp [hlt]
      rw [hB'] at hcell
      have hlo := World.block_lt_of_cell? w _ hcell
      clear hc hB hB'
      go_enter Tryz.func81, Tryz.ntmps81
      go_wp2_with fail
      go_ret
      exact ⟨rfl, rfl⟩
  · have hB' : B = false := by rw [← hB, List.getD_eq_getElem?_getD, List.getElem?_eq_none (by omega)]; rfl
    subst hB'
    clear hB h
    have hd : decide (j < l.length) = false := by simpa using hlt
    go_enter Tryz.func81, Tryz.ntmps81
    go_wp2_with fail
    go_ret
    exact ⟨rfl, rfl⟩

/-- Is arc a within? -/
def insB (n : NetD) (l : List Bool) (a : Nat) : Bool := l.getD (n.arc a).1.toNat false && l.getD (n.arc a).2.1.toNat false
set_option maxHeartbeats 1000000 in
theorem wwithin_is (h : GraphAt P w p n va vt) (hn : GrN n) {u : Value} {l : List Bool} (hu : Bools w u l) {a : Nat} (ha : a < n.a.length) {B : Bool} (hB : insB n l a = B) : Calls Tryz.prog 39 #[gp p, .int .i64 a, u] w fun e w' => e = .returned (.bool B) ∧ Below w.heap.size w w' := by
  obtain ⟨f0, f1, t0, t1, -⟩ := hn.good.arcs a ha
  have hv := hn.few.v
  unfold insB at hB
  rw [NetGood.arc_at a ha] at hB
  obtain ⟨f, hf⟩ : ∃ f : Nat, n.a[a].1 = f := ⟨n.a[a].1.toNat, by omega⟩
  obtain ⟨t, ht⟩ : ∃ t : Nat, n.a[a].2.1 = t := ⟨n.a[a].2.1.toNat, by omega⟩
  rw [hf, ht, Int.toNat_natCast, Int.toNat_natCast] at hB
  obtain ⟨x, hx⟩ : ∃ x, l.getD f false = x := ⟨_, rfl⟩
  obtain ⟨y, hy⟩ : ∃ y, l.getD t false = y := ⟨_, rfl⟩
  rw [hx, hy] at hB
  have HF := Lib.hid hf
  have HT := Lib.hid ht
  have HX := Lib.hid hx
  have HY := Lib.hid hy
  have HU := Lib.hid hu
  have HG := Lib.hid h
  have hf1 : (f : Int) ≤ 4096 := by omega
  have ht1 : (t : Int) ≤ 4096 := by omega
  obtain ⟨q, c, rfl⟩ := hu.shape
  clear hf ht hx hy hu h f0 f1 t0 t1
  cases x with
  | false =>
    obtain rfl : B = false := by rw [← hB]; rfl
    clear hB
    go_enter Tryz.func39, Tryz.ntmps39
    go_wp2_with fail
    refine (vFrom HG.out ha HF.out).mono ?_
    rintro e w1 ⟨rfl, hb1⟩
    have HB1 := Lib.hid hb1
    clear hb1
    go_wp2_with fail
    refine (wmarked_is (HU.out.below HB1.out) f HX.out).mono ?_
    rintro e w2 ⟨rfl, rfl⟩
    go_wp2_with fail
    go_ret
    exact ⟨rfl, HB1.out⟩
  | true =>
    obtain rfl : B = y := by rw [← hB]; rfl
    clear hB
    go_enter Tryz.func39, Tryz.ntmps39
    go_wp2_with fail
    refine (vFrom HG.out ha HF.out).mono ?_
    rintro e w1 ⟨rfl, hb1⟩
    have HB1 := Lib.hid hb1
    clear hb1
    go_wp2_with fail
    refine (wmarked_is (HU.out.below HB1.out) f HX.out).mono ?_
    rintro e w2 ⟨rfl, rfl⟩
    go_wp2_with fail
    refine (vTo (HG.out.old HB1.out) ha HT.out).mono ?_
    rintro e w3 ⟨rfl, hb3⟩
    have HB3 := Lib.hid (bOn6 HB1.out hb3)
    clear hb3
    go_wp2_with fail
    refine (wmarked_is (HU.out.below HB3.out) t HY.out).mono ?_
    rintro e w4 ⟨rfl, rfl⟩
    go_wp2_with fail
    go_ret
    exact ⟨rfl, HB3.out⟩
end

end Go.Proofs.YtlfihaajnjeaeaaGreatDoor

/-
  The program's walks: what may be next behind an arc, what ahead.
-/
namespace Go.Proofs.YtlfihaajnjeaeaaGreatDoor
open HP Go.RowKit

theorem infoStep : (Tryz.prog.info? 88).map (fun i => (i.zero, i.size, i.bytes)) = some (some (.agg #[.int .i64 0, .int .i64 0]), 2, 16) := by kernel_rfl
/-- A row of steps of one's own. -/
def StepsO (w : World) (base : Nat) (v : Value) (R : List It) : Prop := w.ownsRow base 88 2 v R.length (flatI R)
section
variable {w w' : World} {base : Nat} {v : Value} {R : List It}
theorem StepsO.below (h : StepsO w base v R) (hb : Below w.heap.size w w') : StepsO w' base v R :=
  owns_keep (P := fun _ => True) h (Keep.of hb) (fun _ _ => trivial)
theorem StepsO.shape (h : StepsO w base v R) : ∃ q c, v = .slice q R.length c := own_shape h
theorem StepsO.at {q : Option Addr} {c : Nat} (h : StepsO w base (.slice q R.length c) R) {i : Nat} (hi : i < R.length) : ∃ g, q = some ⟨g, 0, none⟩ ∧ base ≤ g ∧ g < w.heap.size ∧ w.cell? ⟨g, i * 2, none⟩ = some (.int .i64 R[i].1) ∧ w.cell? ⟨g, i * 2 + 1, none⟩ = some (.int .i64 R[i].2) := by
  have hx : R[i]? = some R[i] := List.getElem?_eq_getElem hi
  obtain ⟨x0, x1⟩ := flatI_at R i _ hx
  rcases h.2 with ⟨_, e0⟩ | ⟨g, cap, cur, e, hg, _⟩
  · omega
  · injection e with e1 e2 e3
    subst e1
    exact ⟨g, rfl, hg, (World.ownsRow.lt h g rfl).2, (h.cellAt _ (by omega)).trans x0, (h.cellAt _ (by omega)).trans x1⟩
end
/-- v is a literal of one step. -/
theorem app2 {t e : TypeId} (ht : Tryz.prog.underlying t = some (.slice e)) (hinf : (Tryz.prog.info? e).map (fun i => (i.zero, i.size, i.bytes)) = some (some (.agg #[.int .i64 0, .int .i64 0]), 2, 16)) {W : World} {base : Nat} {v : Value} {l : List It} {x : It} (h : W.ownsRow base e 2 v l.length (flatI l)) {g : Nat} (hk : Blk W g #[.int .i64 x.1, .int .i64 x.2] e) (hl : l.length ≤ 100000) (hb : base ≤ W.heap.size) :
    ∃ q c w', (Builtin.append_ #[t, t] t #[v, .slice (some ⟨g, 0, none⟩) 1 1]).run Tryz.prog W = .ok (.slice q (l.length + 1) c) w' ∧ w'.ownsRow base e 2 (.slice q (l.length + 1) c) (l.length + 1) (flatI (l ++ [x])) ∧ W.grownBy w' v.ownBlock := by
  obtain ⟨i0, hi, hz0, hz1, hz2⟩ := info_parts hinf
  obtain ⟨v', w', hr, h1, h2, -⟩ := run_append_own (P := Tryz.prog) W base t t e i0 (.agg #[.int .i64 0, .int .i64 0]) 2 16 ht hi hz0 hz1 hz2 rfl (by decide) v l.length (flatI l) h ⟨g, 0, none⟩ 1 1 [.int .i64 x.1, .int .i64 x.2] rfl
    (fun j u hj => by
      obtain ⟨k0, k1, -, -⟩ := hk.o2
      match j, hj with
      | 0, hj => simp at hj; subst hj; simpa [Addr.add] using k0
      | 1, hj => simp at hj; subst hj; simpa [Addr.add] using k1) (by intro u hu; simp at hu; rcases hu with rfl | rfl <;> rfl) (by simp [maxLen]; omega) (by omega) hb
  obtain ⟨q, c, rfl⟩ := own_shape h1
  exact ⟨q, c, w', hr, by rw [flatI_app]; exact h1, h2⟩
/-- What is told: a row of steps of the call's own. -/
def StepsPost (w : World) (R : List It) (e : Ending) (w' : World) : Prop := ∃ v, e = .returned v ∧ StepsO w' w.heap.size v R ∧ Below w.heap.size w w'
theorem outs_short {n : NetD} (hn : GrN n) (v : Int) : (outsL n.a v).length ≤ 16384 := by
  have h1 := idxFrom_length (fun x => decide (x.1 = v)) 0 n.a
  have h2 := hn.few.a
  unfold outsL
  omega
theorem ins_short {n : NetD} (hn : GrN n) (v : Int) : (insL n.a v).length ≤ 16384 := by
  have h1 := idxFrom_length (fun x => decide (x.2.1 = v)) 0 n.a
  have h2 := hn.few.a
  unfold insL
  omega
/-- The first k steps. -/
def onwT (n : NetD) (a k : Nat) : List It := ((outsL n.a (n.arc a).2.1).take k).map fun b => (b.toNat, oN n a b.toNat)
theorem onwT_succ {n : NetD} {a k : Nat} (h : k < (outsL n.a (n.arc a).2.1).length) : onwT n a (k + 1) = onwT n a k ++ [((outsL n.a (n.arc a).2.1)[k].toNat, oN n a (outsL n.a (n.arc a).2.1)[k].toNat)] := by
  unfold onwT
  rw [List.take_succ_eq_append_getElem h, List.map_append]
  rfl
theorem onwT_length {n : NetD} {a k : Nat} (h : k ≤ (outsL n.a (n.arc a).2.1).length) : (onwT n a k).length = k := by
  unfold onwT
  rw [List.length_map, List.length_take]
  omega
section
variable {P : Nat → Prop} {w : World} {p : Nat} {n : NetD} {va vt : Value}
/-- The loop's head. -/
def OnwRel (w : World) (T : Nat → List It) (N : Nat) (sl iv : Value) (wr : World) : Prop :=
  ∃ k : Nat, k ≤ N ∧ iv = .int .i64 k ∧ StepsO wr w.heap.size sl (T k) ∧ Below w.heap.size w wr
theorem StepsO.base {w : World} {base base' : Nat} {v : Value} {R : List It} (h : StepsO w base v R) (hb : base' ≤ base) : StepsO w base' v R := by
  refine ⟨h.1, ?_⟩
  rcases h.2 with h0 | ⟨g, cap, cur, e, hg, r⟩
  · exact Or.inl h0
  · exact Or.inr ⟨g, cap, cur, e, Nat.le_trans hb hg, r⟩

set_option maxHeartbeats 4000000 in
set_option maxRecDepth 100000 in
theorem wonward_is (h : GraphAt P w p n va vt) (hn : GrN n) {a : Nat} (ha : a < n.a.length) : Calls Tryz.prog 33 #[gp p, .int .i64 a] w (StepsPost w (onwL n a)) := by
  have HG := Lib.hid h
  have HN := Lib.hid hn
  obtain ⟨X, hX⟩ : ∃ X, n.a[a].2.1 = X := ⟨_, rfl⟩
  have hXa : (n.arc a).2.1 = X := by rw [NetGood.arc_at a ha]; exact hX
  have HX := Lib.hid hX
  have HXA := Lib.hid hXa
  have hsh := outs_short hn X
  have hpos : 0 ≤ (outsL n.a X).length := Nat.zero_le _
  clear h hn hX hXa
  go_enter Tryz.func33, Tryz.ntmps33
  go_wp2_with fail
  refine (vTo HG.out ha HX.out).mono ?_
  rintro e w1 ⟨rfl, hb1⟩
  have HB1 := Lib.hid hb1
  clear hb1
  go_wp2_with fail
  refine (vOutsG (HG.out.old HB1.out) HN.out X rfl).mono ?_
  rintro e w2 ⟨u, rfl, hu, hb2⟩
  have HB2 := Lib.hid (bOn6 HB1.out hb2)
  obtain ⟨q, c, rfl⟩ := hu.shape
  have HU := Lib.hid hu
  have HZ : w.heap.size ≤ w2.heap.size := HB2.out.size
  clear hu hb2 HB1
  go_wp2_with fail
  go_loopw [5, 14] (fun sl iv wr => OnwRel w2 (onwT n a) (outsL n.a X).length sl iv wr) (fun _ iv _ => (outsL n.a X).length - (intOf iv).toNat)
  case atStart => exact ⟨0, Nat.zero_le _, rfl, World.ownsRow_nil _ _ _ _, Below.refl _ _⟩
  case round =>
    obtain ⟨k, hk, rfl, hs, hb⟩ := hrel
    have HS := Lib.hid hs
    have HB := Lib.hid hb
    have HB0 : Hid (Below w.heap.size w wr) := Lib.hid (bOn6 HB2.out hb)
    clear hs hb
    by_cases hlt : k < (outsL n.a X).length
    · obtain ⟨b, o, rfl, hcell⟩ := (HU.out.below HB.out).at hlt
      obtain ⟨z, hz, ez, ez2, -⟩ := outs_at hlt
      have HT : Hid (onwT n a (k + 1) = onwT n a k ++ [(z, oN n a z)]) := Lib.hid (by rw [onwT_succ (by rw [HXA.out]; exact hlt)]; simp only [HXA.out]; rw [ez, Int.toNat_natCast])
      have HL : Hid ((onwT n a k).length = k) := Lib.hid (onwT_length (by rw [HXA.out]; exact hk))
      rw [ez] at hcell
      have hli : (k : Int) < ((outsL n.a X).length : Int) := by omega
      have hblt := World.block_lt_of_cell? wr _ hcell
      have HOZ : Hid (ontoZ n a z = oN n a z) := Lib.hid (ontoZ_at hz)
      clear ez ez2
      go_wp2_with fail
      clear hcell
      refine (wonto_is (HG.out.old HB0.out) HN.out a z HOZ.out).mono ?_
      rintro e w3 ⟨rfl, hb3⟩
      have HB3 := Lib.hid (bOn6 HB.out hb3)
      have HS3 := Lib.hid (HS.out.below hb3)
      clear hb3 HS HB HB0
      obtain ⟨W4, hW4⟩ := named (w3.alloc (.cells #[.int .i64 z, .int .i64 (oN n a z)] 88))
      have hb4 : Below w3.heap.size w3 W4 := by rw [hW4]; exact below_alloc1 _
      have hk4 : Blk W4 w3.heap.size #[.int .i64 z, .int .i64 (oN n a z)] 88 := by rw [hW4]; exact Blk.new _ _ _ _ rfl
      obtain ⟨q2, c2, w5, hr, hown, hgrow⟩ := app2 (x := (z, oN n a z)) Tryz.underlying85 infoStep (HS3.out.below hb4) hk4 (by rw [HL.out]; omega) (by have := HB3.out.size; have := hb4.size; omega)
      have HB5 : Hid (Below w2.heap.size w2 w5) := Lib.hid (below_grownO (bOn6 HB3.out hb4) hgrow (fun g hg => own_ge HS3.out g hg))
      have HS5 : Hid (StepsO w5 w2.heap.size (.slice q2 (k + 1) c2) (onwT n a (k + 1))) := Lib.hid (by
        unfold StepsO
        rw [HT.out, List.length_append]
        have := hown
        rw [HL.out] at this ⊢
        exact this)
      rw [HL.out, hW4] at hr
      have HR := Lib.hid hr
      clear hr hown hgrow hb4 hk4 hW4 HS3 HB3
      go_wp2_with (at_builtin; refine wpList_append_run (by rfl) _ _ _ rfl _ _ _ rfl rfl HR.out ?_)
      go_roundw
      case rel => exact ⟨k + 1, hlt, by go_num, HS5.out, HB5.out⟩
      case measure => simp [intOf]; omega
    · have hkl : k = (outsL n.a X).length := by omega
      have HE : Hid (onwT n a k = onwL n a) := Lib.hid (by unfold onwT onwL; rw [HXA.out, hkl, List.take_length])
      have hnl : decide (k < (outsL n.a X).length) = false := by simpa using hlt
      clear hkl
      go_wp2_with fail
      go_ret
      exact ⟨_, rfl, by rw [← HE.out]; exact HS.out.base HZ, HB0.out⟩
end

end Go.Proofs.YtlfihaajnjeaeaaGreatDoor

/-
  The program's walks: what may be right ahead of an arc; what a row of arcs costs.
-/
namespace Go.Proofs.YtlfihaajnjeaeaaGreatDoor
open HP Go.RowKit

/-- The first k arcs, those that may be gone along. -/
def bckT (n : NetD) (b k : Nat) : List It := (((insL n.a (n.arc b).1).take k).filter fun a => decide (¬ wN n a.toNat = 1152921504606846976)).map fun a => (a.toNat, oN n a.toNat b)
section
variable {n : NetD} {b k : Nat}
theorem bckT_yes (h : k < (insL n.a (n.arc b).1).length) (hw : wN n (insL n.a (n.arc b).1)[k].toNat ≠ 1152921504606846976) : bckT n b (k + 1) = bckT n b k ++ [((insL n.a (n.arc b).1)[k].toNat, oN n (insL n.a (n.arc b).1)[k].toNat b)] := by
  unfold bckT
  rw [List.take_succ_eq_append_getElem h, List.filter_append, List.map_append]
  simp [hw]
theorem bckT_no (h : k < (insL n.a (n.arc b).1).length) (hw : wN n (insL n.a (n.arc b).1)[k].toNat = 1152921504606846976) : bckT n b (k + 1) = bckT n b k := by
  unfold bckT
  rw [List.take_succ_eq_append_getElem h, List.filter_append, List.map_append]
  simp [hw]
theorem bckT_length (k : Nat) : (bckT n b k).length ≤ k := by
  unfold bckT
  rw [List.length_map]
  have := List.length_filter_le (fun a => decide (¬ wN n a.toNat = 1152921504606846976)) ((insL n.a (n.arc b).1).take k)
  rw [List.length_take] at this
  omega
end
section
variable {P : Nat → Prop} {w : World} {p : Nat} {n : NetD} {va vt : Value}

set_option maxHeartbeats 4000000 in
set_option maxRecDepth 100000 in
theorem wbackward_is (h : GraphAt P w p n va vt) (hn : GrN n) {a : Nat} (ha : a < n.a.length) : Calls Tryz.prog 43 #[gp p, .int .i64 a] w (StepsPost w (bckL n a)) := by
  have HG := Lib.hid h
  have HN := Lib.hid hn
  obtain ⟨X, hX⟩ : ∃ X, n.a[a].1 = X := ⟨_, rfl⟩
  have hXa : (n.arc a).1 = X := by rw [NetGood.arc_at a ha]; exact hX
  have HX := Lib.hid hX
  have HXA := Lib.hid hXa
  have hsh := ins_short hn X
  have hpos : 0 ≤ (insL n.a X).length := Nat.zero_le _
  clear h hn hX hXa
  go_enter Tryz.func43, Tryz.ntmps43
  go_wp2_with fail
  refine (vFrom HG.out ha HX.out).mono ?_
  rintro e w1 ⟨rfl, hb1⟩
  have HB1 := Lib.hid hb1
  clear hb1
  go_wp2_with fail
  refine (vInsG (HG.out.old HB1.out) HN.out X rfl).mono ?_
  rintro e w2 ⟨u, rfl, hu, hb2⟩
  have HB2 := Lib.hid (bOn6 HB1.out hb2)
  obtain ⟨q, c, rfl⟩ := hu.shape
  have HU := Lib.hid hu
  have HZ : w.heap.size ≤ w2.heap.size := HB2.out.size
  clear hu hb2 HB1
  go_wp2_with fail
  go_loopw [5, 14] (fun sl iv wr => OnwRel w2 (bckT n a) (insL n.a X).length sl iv wr) (fun _ iv _ => (insL n.a X).length - (intOf iv).toNat)
  case atStart => exact ⟨0, Nat.zero_le _, rfl, World.ownsRow_nil _ _ _ _, Below.refl _ _⟩
  case round =>
    obtain ⟨k, hk, rfl, hs, hb⟩ := hrel
    have HS := Lib.hid hs
    have HB := Lib.hid hb
    have HB0 : Hid (Below w.heap.size w wr) := Lib.hid (bOn6 HB2.out hb)
    clear hs hb
    by_cases hlt : k < (insL n.a X).length
    · obtain ⟨b, o, rfl, hcell⟩ := (HU.out.below HB.out).at hlt
      obtain ⟨z, hz, ez, ez2, -⟩ := ins_at hlt
      have hle := bckT_length (n := n) (b := a) k
      rw [ez] at hcell
      have hli : (k : Int) < ((insL n.a X).length : Int) := by omega
      have hblt := World.block_lt_of_cell? wr _ hcell
      have HOZ : Hid (ontoZ n z a = oN n z a) := Lib.hid (ontoZ_at ha)
      by_cases hw : wN n z = 1152921504606846976
      · have HT : Hid (bckT n a (k + 1) = bckT n a k) := Lib.hid (bckT_no (by rw [HXA.out]; exact hlt) (by simp only [HXA.out]; rw [ez, Int.toNat_natCast]; exact hw))
        have HOP : Hid ((wt n z != 1152921504606846976) = false) := Lib.hid (by rw [wt_at hz, hw]; rfl)
        clear ez ez2 hw
        go_wp2_with fail
        clear hcell
        refine (wopen_is (HG.out.old HB0.out) z HOP.out).mono ?_
        rintro e w3 ⟨rfl, hb3⟩
        have HB3 := Lib.hid (bOn6 HB.out hb3)
        have HS3 := Lib.hid (HS.out.below hb3)
        clear hb3 HS HB HB0
        go_wp2_with fail
        go_roundw
        case rel => exact ⟨k + 1, hlt, by go_num, by rw [HT.out]; exact HS3.out, HB3.out⟩
        case measure => simp [intOf]; omega
      · have HT : Hid (bckT n a (k + 1) = bckT n a k ++ [(z, oN n z a)]) := Lib.hid (by
          have := bckT_yes (n := n) (b := a) (k := k) (by rw [HXA.out]; exact hlt) (by simp only [HXA.out]; rw [ez, Int.toNat_natCast]; exact hw)
          rw [this]
          simp only [HXA.out]
          rw [ez, Int.toNat_natCast])
        have HOP : Hid ((wt n z != 1152921504606846976) = true) := Lib.hid (by rw [wt_at hz]; simpa using hw)
        clear ez ez2 hw
        go_wp2_with fail
        clear hcell
        refine (wopen_is (HG.out.old HB0.out) z HOP.out).mono ?_
        rintro e w3 ⟨rfl, hb3⟩
        have HB3 := Lib.hid (bOn6 HB.out hb3)
        have HB03 := Lib.hid (bOn6 HB0.out hb3)
        have HS3 := Lib.hid (HS.out.below hb3)
        clear hb3 HS HB HB0
        go_wp2_with fail
        refine (wonto_is (HG.out.old HB03.out) HN.out z a HOZ.out).mono ?_
        rintro e w6 ⟨rfl, hb6⟩
        have HB6 := Lib.hid (bOn6 HB3.out hb6)
        have HS6 := Lib.hid (HS3.out.below hb6)
        clear hb6 HS3 HB3 HB03
        obtain ⟨W4, hW4⟩ := named (w6.alloc (.cells #[.int .i64 z, .int .i64 (oN n z a)] 88))
        have hb4 : Below w6.heap.size w6 W4 := by rw [hW4]; exact below_alloc1 _
        have hk4 : Blk W4 w6.heap.size #[.int .i64 z, .int .i64 (oN n z a)] 88 := by rw [hW4]; exact Blk.new _ _ _ _ rfl
        obtain ⟨L, hL⟩ : ∃ L, (bckT n a k).length = L := ⟨_, rfl⟩
        have HL := Lib.hid hL
        rw [hL] at hle
        clear hL
        obtain ⟨q2, c2, w5, hr, hown, hgrow⟩ := app2 (x := (z, oN n z a)) Tryz.underlying85 infoStep (HS6.out.below hb4) hk4 (by rw [HL.out]; omega) (by have := HB6.out.size; have := hb4.size; omega)
        have HB5 : Hid (Below w2.heap.size w2 w5) := Lib.hid (below_grownO (bOn6 HB6.out hb4) hgrow (fun g hg => own_ge HS6.out g hg))
        have HS5 : Hid (StepsO w5 w2.heap.size (.slice q2 (L + 1) c2) (bckT n a (k + 1))) := Lib.hid (by
          unfold StepsO
          rw [HT.out, List.length_append]
          have := hown
          rw [HL.out] at this ⊢
          exact this)
        rw [HL.out, hW4] at hr
        have HR := Lib.hid hr
        clear hr hown hgrow hb4 hk4 hW4 HS6 HB6
        go_wp2_with (at_builtin; refine wpList_append_run (by rfl) _ _ _ rfl _ _ _ rfl rfl HR.out ?_)
        go_roundw
        case rel => exact ⟨k + 1, hlt, by go_num, HS5.out, HB5.out⟩
        case measure => simp [intOf]; omega
    · have hkl : k = (insL n.a X).length := by omega
      have HE : Hid (bckT n a k = bckL n a) := Lib.hid (by unfold bckT bckL; rw [HXA.out, hkl, List.take_length])
      have hnl : decide (k < (insL n.a X).length) = false := by simpa using hlt
      clear hkl
      go_wp2_with fail
      go_ret
      exact ⟨_, rfl, by rw [← HE.out]; exact HS.out.base HZ, HB0.out⟩

theorem wcost_no (l : List Int) (u : Value) (w : World) (hl : l.length = 0) (hu : I64s w u l) : Calls Tryz.prog 8 #[gp p, u] w fun e w' => e = .returned (.int .i64 1152921504606846976) ∧ w = w' := by
  obtain rfl : l = [] := List.length_eq_zero_iff.1 hl
  obtain ⟨q, c, rfl⟩ := hu.shape
  clear hu hl
  go_enter Tryz.func8, Tryz.ntmps8
  go_wp2_with fail
  go_ret
  exact ⟨rfl, rfl⟩
/-- The sum so far. -/
def CostRel (w : World) (n : NetD) (l : List Int) (m : Nat) (sv iv : Value) (wr : World) : Prop :=
  ∃ k : Nat, k ≤ m ∧ iv = .int .i64 k ∧ sv = .int .i64 (n.costTo l (k + 1)) ∧ Below w.heap.size w wr

set_option maxHeartbeats 4000000 in
set_option maxRecDepth 100000 in
theorem wcost_shut (h : GraphAt P w p n va vt) {l : List Int} {b o c : Nat} {A : Int} (h0 : 0 < l.length) (hcell : w.cell? ⟨b, o, none⟩ = some (.int .i64 A)) (hop : (wt n A != 1152921504606846976) = false) : Calls Tryz.prog 8 #[gp p, .slice (some ⟨b, o, none⟩) l.length c] w fun e w' => e = .returned (.int .i64 1152921504606846976) ∧ Below w.heap.size w w' := by
  have hblt := World.block_lt_of_cell? w _ hcell
  have hne : ((l.length : Int) == 0) = false := beq_eq_false_iff_ne.2 (by omega)
  have HG := Lib.hid h
  have HOP := Lib.hid hop
  clear h hop
  go_enter Tryz.func8, Tryz.ntmps8
  go_wp2_with fail
  refine (wopen_is HG.out A HOP.out).mono ?_
  rintro e w1 ⟨rfl, hb1⟩
  have HB1 := Lib.hid hb1
  clear hb1
  go_wp2_with fail
  go_ret
  exact ⟨rfl, HB1.out⟩

set_option maxHeartbeats 4000000 in
set_option maxRecDepth 100000 in
theorem wcost_one (h : GraphAt P w p n va vt) {b o c : Nat} {A : Int} (hcell : w.cell? ⟨b, o, none⟩ = some (.int .i64 A)) (hop : (wt n A != 1152921504606846976) = true) : Calls Tryz.prog 8 #[gp p, .slice (some ⟨b, o, none⟩) 1 c] w fun e w' => e = .returned (.int .i64 0) ∧ Below w.heap.size w w' := by
  have hblt := World.block_lt_of_cell? w _ hcell
  have HG := Lib.hid h
  have HOP := Lib.hid hop
  clear h hop
  go_enter Tryz.func8, Tryz.ntmps8
  go_wp2_with fail
  refine (wopen_is HG.out A HOP.out).mono ?_
  rintro e w1 ⟨rfl, hb1⟩
  have HB1 := Lib.hid hb1
  clear hb1
  by_cases hc1 : c = 1
  all_goals
    go_wp2_with fail
    refine wp_loop_rounds 1 ?_
    rw [rounds_succ]
    go_wp2_with fail
    go_ret
    exact ⟨rfl, HB1.out⟩

set_option maxHeartbeats 4000000 in
set_option maxRecDepth 100000 in
theorem wcost_main (h : GraphAt P w p n va vt) (hn : GrN n) {l : List Int} {b o c m : Nat} {A : Int} (hc : ∀ i (h : i < l.length), w.cell? ⟨b, o + i, none⟩ = some (.int .i64 l[i])) (hl64 : l.length ≤ 9223372036854775807) (hlc : l.length ≤ c) (hm : l.length = m + 1) (hm1 : 1 ≤ m) (hA : l.getD 0 0 = A) (hop : (wt n A != 1152921504606846976) = true) :
    Calls Tryz.prog 8 #[gp p, .slice (some ⟨b, o, none⟩) (m + 1) c] w fun e w' => e = .returned (.int .i64 (n.costTo l (m + 1))) ∧ Below w.heap.size w w' := by
  have h0 : 0 < l.length := by omega
  have hcell := hc 0 h0
  rw [Nat.add_zero, show l[0] = A from by rw [← hA]; simp [h0]] at hcell
  have hblt := World.block_lt_of_cell? w _ hcell
  have hc1 : ¬ c = 1 := by omega
  have hmc : m + 1 ≤ c := by omega
  have hz : (((m : Int) + 1) == 0) = false := beq_eq_false_iff_ne.2 (by omega)
  have hm64 : m + 1 ≤ 9223372036854775807 := by omega
  have HG := Lib.hid h
  have HN := Lib.hid hn
  have HOP := Lib.hid hop
  have HC := Lib.hid hc
  have HM := Lib.hid hm
  clear h hn hop hA hc hm hlc hl64 h0
  go_enter Tryz.func8, Tryz.ntmps8
  go_wp2_with fail
  refine (wopen_is HG.out A HOP.out).mono ?_
  rintro e w1 ⟨rfl, hb1⟩
  have HB1 := Lib.hid hb1
  clear hb1 hcell
  go_wp2_with fail
  go_loopw [5, 6, 7, 22] (fun sv _ _ iv wr => CostRel w n l m sv iv wr) (fun _ _ _ iv _ => m - (intOf iv).toNat)
  case atStart => exact ⟨0, Nat.zero_le _, rfl, rfl, HB1.out⟩
  case round =>
    obtain ⟨k, hk, rfl, rfl, hb⟩ := hrel
    have HB := Lib.hid hb
    clear hb HB1
    obtain ⟨Sm, eS⟩ : ∃ S, n.costTo l (k + 1) = S := ⟨_, rfl⟩
    have hcb := n.costTo_lo l (k + 1)
    rw [eS] at hcb
    rw [eS]
    have ES := Lib.hid eS
    clear eS
    by_cases hlt : k < m
    · have hlm := HM.out
      have HK1 : Hid (k < l.length) := Lib.hid (by omega)
      have HK2 : Hid (k + 1 < l.length) := Lib.hid (by omega)
      have hli : (k : Int) < (m : Int) := by omega
      have hli2 : (k : Int) < ((m + 1 : Nat) : Int) := by omega
      have x1 := keep (bOn6 (Below.refl _ _) HB.out) (HC.out k HK1.out)
      have x2 := keep (bOn6 (Below.refl _ _) HB.out) (HC.out (k + 1) HK2.out)
      rw [show o + (k + 1) = o + 1 + k by omega] at x2
      have hbl := World.block_lt_of_cell? wr _ x1
      obtain ⟨x, eA⟩ : ∃ A, l[k]'HK1.out = A := ⟨_, rfl⟩
      obtain ⟨y, eB⟩ : ∃ B, l[k + 1]'HK2.out = B := ⟨_, rfl⟩
      rw [eA] at x1
      rw [eB] at x2
      have HST : Hid (n.costTo l (k + 2) = addC Sm (ontoZ n x y)) := Lib.hid (by
        rw [costTo_snoc, ES.out]
        congr 1
        rw [← eA, ← eB]
        congr 1
        · simp [HK1.out]
        · simp [HK2.out])
      have ho := addC_held (n.turn x y) (wt n y)
      obtain ⟨O, eO⟩ : ∃ O, ontoZ n x y = O := ⟨_, rfl⟩
      have EO := Lib.hid eO
      unfold ontoZ at eO
      rw [eO] at ho
      clear eA eB eO hlm
      go_wp2_with fail
      clear x1 x2
      refine (wonto_is (HG.out.old HB.out) HN.out x y EO.out).mono ?_
      rintro e w3 ⟨rfl, hb3⟩
      have HB3 := Lib.hid (bOn6 HB.out hb3)
      clear hb3
      go_wp2_with fail
      refine (add_any Sm O _ (by omega) (by omega) (by omega) (by omega)).mono ?_
      rintro e w4 ⟨rfl, rfl⟩
      go_wp2_with fail
      go_roundw
      case rel => exact ⟨k + 1, hlt, by go_num, by rw [HST.out, EO.out], HB3.out⟩
      case measure => simp [intOf]; omega
    · have hkm : k = m := by omega
      have HE : Hid (Sm = n.costTo l (m + 1)) := Lib.hid (by rw [← ES.out, hkm])
      have hnl : decide (k < m) = false := by simpa using hlt
      clear hkm
      go_wp2_with fail
      go_ret
      exact ⟨ret_int HE.out, HB.out⟩
theorem wcost_is (h : GraphAt P w p n va vt) (hn : GrN n) {l : List Int} {u : Value} (hu : I64s w u l) {X : Int} (hX : n.cost l = X) : Calls Tryz.prog 8 #[gp p, u] w fun e w' => e = .returned (.int .i64 X) ∧ Below w.heap.size w w' := by
  subst hX
  rcases hu with ⟨rfl, q, c, rfl, hq⟩ | ⟨hl64, b, o, c, hlc, hc64, rfl, hc⟩
  · rw [cost_shut (Or.inl rfl)]
    exact (wcost_no [] _ w rfl (Or.inl ⟨rfl, q, c, rfl, hq⟩)).mono (fun e w' h => ⟨h.1, h.2 ▸ Below.refl _ _⟩)
  · by_cases h0 : 0 < l.length
    · have hcell := hc 0 h0
      rw [Nat.add_zero] at hcell
      have hA : l[0] = l.getD 0 0 := by simp [h0]
      cases ho : n.stepOK l 0 with
      | false =>
        rw [cost_shut (Or.inr ho)]
        rw [hA] at hcell
        refine wcost_shut h h0 hcell ?_
        cases hq : (wt n (l.getD 0 0) != 1152921504606846976) with
        | false => rfl
        | true =>
          have : n.stepOK l 0 = true := stepOK_zero.2 (by simpa using hq)
          rw [ho] at this; cases this
      | true =>
        have hop : (wt n (l.getD 0 0) != 1152921504606846976) = true := by simpa using stepOK_zero.1 ho
        rw [cost_open h0 ho]
        by_cases h1 : l.length = 1
        · rw [h1]
          rw [hA] at hcell
          exact wcost_one h hcell hop
        · obtain ⟨m, hm⟩ : ∃ m, l.length = m + 1 := ⟨l.length - 1, by omega⟩
          have := wcost_main h hn hc hl64 hlc hm (by omega) rfl hop
          rw [← hm] at this
          exact this
    · have h1 : l = [] := List.length_eq_zero_iff.1 (by omega)
      subst h1
      rw [cost_shut (Or.inl rfl)]
      exact (wcost_no [] _ w rfl (Or.inl ⟨rfl, _, c, rfl, fun h => by cases h⟩)).mono (fun e w' h => ⟨h.1, h.2 ▸ Below.refl _ _⟩)
end

end Go.Proofs.YtlfihaajnjeaeaaGreatDoor
