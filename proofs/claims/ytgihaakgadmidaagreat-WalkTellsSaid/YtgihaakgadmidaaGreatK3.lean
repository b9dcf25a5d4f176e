/-
  The program's walks: its small functions.
-/
import Derived.Test.YtgihaakgadmidaaGreatE5
import Derived.Test.YtgihaakgadmidaaGreatK1
import Derived.Test.YtgihaakgadmidaaGreatA2
import Derived.BigQuiet
import Derived.Laws.AppendOwn
import Derived.Test.YtgihaakgadmidaaGreatF2
import Derived.Test.YtgihaakgadmidaaGreatShelf
import Derived.Test.YtgihaakgadmidaaGreatD2
import Derived.Laws.CopyOwn
import Derived.Laws.MakeOwn
import Derived.IntWalk
namespace Go.Proofs.YtgihaakgadmidaaGreat
open HP Go.RowKit

/-- The value v is a row of marks. -/
def Bools (w : World) (v : Value) (l : List Bool) : Prop :=
  (l = [] ∧ ∃ p c, v = .slice p 0 c) ∨ (l.length ≤ 9223372036854775807 ∧ ∃ b o c, l.length ≤ c ∧ v = .slice (some ⟨b, o, none⟩) l.length c ∧ ∀ i (h : i < l.length), w.cell? ⟨b, o + i, none⟩ = some (.bool l[i]))
theorem Bools.below {w w' : World} {v : Value} {l : List Bool} (h : Bools w v l) (hb : Below w.heap.size w w') : Bools w' v l := by
  rcases h with h | ⟨hl, b, o, c, h1, rfl, hc⟩
  · exact Or.inl h
  · exact Or.inr ⟨hl, b, o, c, h1, rfl, fun i hi => (hb.cell (World.block_lt_of_cell? w _ (hc i hi))).trans (hc i hi)⟩
theorem Bools.shape {w : World} {v : Value} {l : List Bool} (h : Bools w v l) : ∃ q c, v = .slice q l.length c := by
  rcases h with ⟨rfl, p, c, rfl⟩ | ⟨_, b, o, c, _, rfl, _⟩
  · exact ⟨p, c, rfl⟩
  · exact ⟨_, c, rfl⟩
section
variable {P : Nat → Prop} {w : World} {p : Nat} {n : NetD} {va vt : Value}
theorem vWt (h : GraphAt P w p n va vt) (a : Int) {X : Int} (hX : wt n a = X) : Calls Tryz.prog 60 #[gp p, .int .i64 a] w fun e w' => e = .returned (.int .i64 X) ∧ Below w.heap.size w w' := by
  cases hT : n.there a with
  | false =>
    rw [wt_not hT] at hX
    subst hX
    exact vWeight0 h hT
  | true =>
    obtain ⟨k, rfl, hk⟩ := there_of hT
    refine vWeight h hk ?_
    rw [← hX, wt_at hk]
    unfold wN
    rw [NetGood.arc_at k hk]

set_option maxHeartbeats 1000000 in
theorem wopen_is (h : GraphAt P w p n va vt) (a : Int) {B : Bool} (hB : (wt n a != 1152921504606846976) = B) : Calls Tryz.prog 36 #[gp p, .int .i64 a] w fun e w' => e = .returned (.bool B) ∧ Below w.heap.size w w' := by
  obtain ⟨X, hX⟩ : ∃ X, wt n a = X := ⟨_, rfl⟩
  rw [hX] at hB
  have HX := Lib.hid hX
  clear hX
  go_enter Tryz.func36, Tryz.ntmps36
  go_wp2_with fail
  refine (vWt h a HX.out).mono ?_
  rintro e w' ⟨rfl, hb⟩
  go_wp2_with fail
  go_ret
  exact ⟨rfl, hb⟩

set_option maxHeartbeats 1000000 in
theorem wonto_is (h : GraphAt P w p n va vt) (hn : GrN n) (a b : Int) {X : Int} (hX : ontoZ n a b = X) : Calls Tryz.prog 38 #[gp p, .int .i64 a, .int .i64 b] w fun e w' => e = .returned (.int .i64 X) ∧ Below w.heap.size w w' := by
  have t0 := turn_bd hn.good a b
  have w0 := wt_bd hn.good b
  unfold ontoZ at hX
  obtain ⟨T, hT⟩ : ∃ T, n.turn a b = T := ⟨_, rfl⟩
  obtain ⟨V, hV⟩ : ∃ V, wt n b = V := ⟨_, rfl⟩
  rw [hT] at hX t0
  rw [hV] at hX w0
  have HX := Lib.hid hX
  have HT := Lib.hid hT
  have HV := Lib.hid hV
  have HN := Lib.hid hn
  have HG := Lib.hid h
  clear hX hT hV hn h
  go_enter Tryz.func38, Tryz.ntmps38
  go_wp2_with fail
  refine (vTurnG HG.out HN.out HT.out).mono ?_
  rintro e w1 ⟨rfl, hb1⟩
  have HB1 := Lib.hid hb1
  have HG1 := Lib.hid (HG.out.old hb1)
  clear hb1
  go_wp2_with fail
  refine (vWt HG1.out b HV.out).mono ?_
  rintro e w2 ⟨rfl, hb2⟩
  have HB2 := Lib.hid (bOn6 HB1.out hb2)
  clear hb2
  go_wp2_with fail
  refine (add_any T V _ (by omega) (by omega) (by omega) (by omega)).mono ?_
  rintro e w3 ⟨rfl, rfl⟩
  go_wp2_with fail
  go_ret
  exact ⟨ret_int HX.out, HB2.out⟩

set_option maxHeartbeats 1000000 in
theorem wmarked_is {u : Value} {l : List Bool} (h : Bools w u l) (j : Nat) {B : Bool} (hB : l.getD j false = B) : Calls Tryz.prog 69 #[u, .int .i64 j] w fun e w' => e = .returned (.bool B) ∧ w = w' := by
  obtain ⟨q, c, rfl⟩ := h.shape
  by_cases hlt : j < l.length
  · rcases h with ⟨rfl, -⟩ | ⟨hl, b, o, c', -, e, hc⟩
    · simp at hlt
    · injection e with e1
      subst e1
      have hcell := hc j hlt
      have hB' : l[j] = B := by rw [← hB]; simp [hlt]
      rw [hB'] at hcell
      have hlo := World.block_lt_of_cell? w _ hcell
      clear hc hB hB'
      go_enter Tryz.func69, Tryz.ntmps69
      go_wp2_with fail
      go_ret
      exact ⟨rfl, rfl⟩
  · have hB' : B = false := by rw [← hB, List.getD_eq_getElem?_getD, List.getElem?_eq_none (by omega)]; rfl
    subst hB'
    clear hB h
    have hd : decide (j < l.length) = false := by simpa using hlt
    go_enter Tryz.func69, Tryz.ntmps69
    go_wp2_with fail
    go_ret
    exact ⟨rfl, rfl⟩

/-- Is arc a within? -/
def insB (n : NetD) (l : List Bool) (a : Nat) : Bool := l.getD (n.arc a).1.toNat false && l.getD (n.arc a).2.1.toNat false
set_option maxHeartbeats 1000000 in
theorem wwithin_is (h : GraphAt P w p n va vt) (hn : GrN n) {u : Value} {l : List Bool} (hu : Bools w u l) {a : Nat} (ha : a < n.a.length) {B : Bool} (hB : insB n l a = B) : Calls Tryz.prog 43 #[gp p, .int .i64 a, u] w fun e w' => e = .returned (.bool B) ∧ Below w.heap.size w w' := by
  obtain ⟨f0, f1, t0, t1, -⟩ := hn.good.arcs a ha
  have hv := hn.few.v
  unfold insB at hB
  rw [NetGood.arc_at a ha] at hB
  obtain ⟨f, hf⟩ : ∃ f : Nat, n.a[a].1 = f := ⟨n.a[a].1.toNat, by omega⟩
  obtain ⟨t, ht⟩ : ∃ t : Nat, n.a[a].2.1 = t := ⟨n.a[a].2.1.toNat, by omega⟩
  rw [hf, ht, Int.toNat_natCast, Int.toNat_natCast] at hB
  obtain ⟨x, hx⟩ : ∃ x, l.getD f false = x := ⟨_, rfl⟩
  obtain ⟨y, hy⟩ : ∃ y, l.getD t false = y := ⟨_, rfl⟩
  rw [hx, hy] at hB
  have HF := Lib.hid hf
  have HT := Lib.hid ht
  have HX := Lib.hid hx
  have HY := Lib.hid hy
  have HU := Lib.hid hu
  have HG := Lib.hid h
  have hf1 : (f : Int) ≤ 4096 := by omega
  have ht1 : (t : Int) ≤ 4096 := by omega
  obtain ⟨q, c, rfl⟩ := hu.shape
  clear hf ht hx hy hu h f0 f1 t0 t1
  cases x with
  | false =>
    obtain rfl : B = false := by rw [← hB]; rfl
    clear hB
    go_enter Tryz.func43, Tryz.ntmps43
    go_wp2_with fail
    refine (vFrom HG.out ha HF.out).mono ?_
    rintro e w1 ⟨rfl, hb1⟩
    have HB1 := Lib.hid hb1
    clear hb1
    go_wp2_with fail
    refine (wmarked_is (HU.out.below HB1.out) f HX.out).mono ?_
    rintro e w2 ⟨rfl, rfl⟩
    go_wp2_with fail
    go_ret
    exact ⟨rfl, HB1.out⟩
  | true =>
    obtain rfl : B = y := by rw [← hB]; rfl
    clear hB
    go_enter Tryz.func43, Tryz.ntmps43
    go_wp2_with fail
    refine (vFrom HG.out ha HF.out).mono ?_
    rintro e w1 ⟨rfl, hb1⟩
    have HB1 := Lib.hid hb1
    clear hb1
    go_wp2_with fail
    refine (wmarked_is (HU.out.below HB1.out) f HX.out).mono ?_
    rintro e w2 ⟨rfl, rfl⟩
    go_wp2_with fail
    refine (vTo (HG.out.old HB1.out) ha HT.out).mono ?_
    rintro e w3 ⟨rfl, hb3⟩
    have HB3 := Lib.hid (bOn6 HB1.out hb3)
    clear hb3
    go_wp2_with fail
    refine (wmarked_is (HU.out.below HB3.out) t HY.out).mono ?_
    rintro e w4 ⟨rfl, rfl⟩
    go_wp2_with fail
    go_ret
    exact ⟨rfl, HB3.out⟩
end

end Go.Proofs.YtgihaakgadmidaaGreat

/-
  The program's walks: what may be next behind an arc, what ahead.
-/
namespace Go.Proofs.YtgihaakgadmidaaGreat
open HP Go.RowKit

theorem infoStep : (Tryz.prog.info? 84).map (fun i => (i.zero, i.size, i.bytes)) = some (some (.agg #[.int .i64 0, .int .i64 0]), 2, 16) := by kernel_rfl
/-- A row of steps of one's own. -/
def StepsO (w : World) (base : Nat) (v : Value) (R : List It) : Prop := w.ownsRow base 84 2 v R.length (flatI R)
section
variable {w w' : World} {base : Nat} {v : Value} {R : List It}
theorem StepsO.below (h : StepsO w base v R) (hb : Below w.heap.size w w') : StepsO w' base v R :=
  owns_keep (P := fun _ => True) h (Keep.of hb) (fun _ _ => trivial)
theorem StepsO.shape (h : StepsO w base v R) : ∃ q c, v = .slice q R.length c := own_shape h
theorem StepsO.at {q : Option Addr} {c : Nat} (h : StepsO w base (.slice q R.length c) R) {i : Nat} (hi : i < R.length) : ∃ g, q = some ⟨g, 0, none⟩ ∧ base ≤ g ∧ g < w.heap.size ∧ w.cell? ⟨g, i * 2, none⟩ = some (.int .i64 R[i].1) ∧ w.cell? ⟨g, i * 2 + 1, none⟩ = some (.int .i64 R[i].2) := by
  have hx : R[i]? = some R[i] := List.getElem?_eq_getElem hi
  obtain ⟨x0, x1⟩ := flatI_at R i _ hx
  rcases h.2 with ⟨_, e0⟩ | ⟨g, cap, cur, e, hg, _⟩
  · omega
  · injection e with e1 e2 e3
    subst e1
    exact ⟨g, rfl, hg, (World.ownsRow.lt h g rfl).2, (h.cellAt _ (by omega)).trans x0, (h.cellAt _ (by omega)).trans x1⟩
end
/-- v is a literal of one step. -/
theorem app2 {t e : TypeId} (ht : Tryz.prog.underlying t = some (.slice e)) (hinf : (Tryz.prog.info? e).map (fun i => (i.zero, i.size, i.bytes)) = some (some (.agg #[.int .i64 0, .int .i64 0]), 2, 16)) {W : World} {base : Nat} {v : Value} {l : List It} {x : It} (h : W.ownsRow base e 2 v l.length (flatI l)) {g : Nat} (hk : Blk W g #[.int .i64 x.1, .int .i64 x.2] e) (hl : l.length ≤ 100000) (hb : base ≤ W.heap.size) :
    ∃ q c w', (Builtin.append_ #[t, t] t #[v, .slice (some ⟨g, 0, none⟩) 1 1]).run Tryz.prog W = .ok (.slice q (l.length + 1) c) w' ∧ w'.ownsRow base e 2 (.slice q (l.length + 1) c) (l.length + 1) (flatI (l ++ [x])) ∧ W.grownBy w' v.ownBlock := by
  obtain ⟨i0, hi, hz0, hz1, hz2⟩ := info_parts hinf
  obtain ⟨v', w', hr, h1, h2, -⟩ := run_append_own (P := Tryz.prog) W base t t e i0 (.agg #[.int .i64 0, .int .i64 0]) 2 16 ht hi hz0 hz1 hz2 rfl (by decide) v l.length (flatI l) h ⟨g, 0, none⟩ 1 1 [.int .i64 x.1, .int .i64 x.2] rfl
    (fun j u hj => by
      obtain ⟨k0, k1, -, -⟩ := hk.o2
      match j, hj with
      | 0, hj => simp at hj; subst hj; simpa [Addr.add] using k0
      | 1, hj => simp at hj; subst hj; simpa [Addr.add] using k1) (by intro u hu; simp at hu; rcases hu with rfl | rfl <;> rfl) (by simp [maxLen]; omega) (by omega) hb
  obtain ⟨q, c, rfl⟩ := own_shape h1
  exact ⟨q, c, w', hr, by rw [flatI_app]; exact h1, h2⟩
/-- What is told: a row of steps of the call's own. -/
def StepsPost (w : World) (R : List It) (e : Ending) (w' : World) : Prop := ∃ v, e = .returned v ∧ StepsO w' w.heap.size v R ∧ Below w.heap.size w w'
theorem outs_short {n : NetD} (hn : GrN n) (v : Int) : (outsL n.a v).length ≤ 16384 := by
  have h1 := idxFrom_length (fun x => decide (x.1 = v)) 0 n.a
  have h2 := hn.few.a
  unfold outsL
  omega
theorem ins_short {n : NetD} (hn : GrN n) (v : Int) : (insL n.a v).length ≤ 16384 := by
  have h1 := idxFrom_length (fun x => decide (x.2.1 = v)) 0 n.a
  have h2 := hn.few.a
  unfold insL
  omega
/-- The first k steps. -/
def onwT (n : NetD) (a k : Nat) : List It := ((outsL n.a (n.arc a).2.1).take k).map fun b => (b.toNat, oN n a b.toNat)
theorem onwT_succ {n : NetD} {a k : Nat} (h : k < (outsL n.a (n.arc a).2.1).length) : onwT n a (k + 1) = onwT n a k ++ [((outsL n.a (n.arc a).2.1)[k].toNat, oN n a (outsL n.a (n.arc a).2.1)[k].toNat)] := by
  unfold onwT
  rw [List.take_succ_eq_append_getElem h, List.map_append]
  rfl
theorem onwT_length {n : NetD} {a k : Nat} (h : k ≤ (outsL n.a (n.arc a).2.1).length) : (onwT n a k).length = k := by
  unfold onwT
  rw [List.length_map, List.length_take]
  omega
section
variable {P : Nat → Prop} {w : World} {p : Nat} {n : NetD} {va vt : Value}
/-- The loop's head. -/
def OnwRel (w : World) (T : Nat → List It) (N : Nat) (sl iv : Value) (wr : World) : Prop :=
  ∃ k : Nat, k ≤ N ∧ iv = .int .i64 k ∧ StepsO wr w.heap.size sl (T k) ∧ Below w.heap.size w wr
theorem StepsO.base {w : World} {base base' : Nat} {v : Value} {R : List It} (h : StepsO w base v R) (hb : base' ≤ base) : StepsO w base' v R := by
  refine ⟨h.1, ?_⟩
  rcases h.2 with h0 | ⟨g, cap, cur, e, hg, r⟩
  · exact Or.inl h0
  · exact Or.inr ⟨g, cap, cur, e, Nat.le_trans hb hg, r⟩

set_option maxHeartbeats 4000000 in
set_option maxRecDepth 100000 in
theorem wonward_is (h : GraphAt P w p n va vt) (hn : GrN n) {a : Nat} (ha : a < n.a.length) : Calls Tryz.prog 31 #[gp p, .int .i64 a] w (StepsPost w (onwL n a)) := by
  have HG := Lib.hid h
  have HN := Lib.hid hn
  obtain ⟨X, hX⟩ : ∃ X, n.a[a].2.1 = X := ⟨_, rfl⟩
  have hXa : (n.arc a).2.1 = X := by rw [NetGood.arc_at a ha]; exact hX
  have HX := Lib.hid hX
  have HXA := Lib.hid hXa
  have hsh := outs_short hn X
  have hpos : 0 ≤ (outsL n.a X).length := Nat.zero_le _
  clear h hn hX hXa
  go_enter Tryz.func31, Tryz.ntmps31
  go_wp2_with fail
  refine (vTo HG.out ha HX.out).mono ?_
  rintro e w1 ⟨rfl, hb1⟩
  have HB1 := Lib.hid hb1
  clear hb1
  go_wp2_with fail
  refine (vOutsG (HG.out.old HB1.out) HN.out X rfl).mono ?_
  rintro e w2 ⟨u, rfl, hu, hb2⟩
  have HB2 := Lib.hid (bOn6 HB1.out hb2)
  obtain ⟨q, c, rfl⟩ := hu.shape
  have HU := Lib.hid hu
  have HZ : w.heap.size ≤ w2.heap.size := HB2.out.size
  clear hu hb2 HB1
  go_wp2_with fail
  go_loopw [5, 14] (fun sl iv wr => OnwRel w2 (onwT n a) (outsL n.a X).length sl iv wr) (fun _ iv _ => (outsL n.a X).length - (intOf iv).toNat)
  case atStart => exact ⟨0, Nat.zero_le _, rfl, World.ownsRow_nil _ _ _ _, Below.refl _ _⟩
  case round =>
    obtain ⟨k, hk, rfl, hs, hb⟩ := hrel
    have HS := Lib.hid hs
    have HB := Lib.hid hb
    have HB0 : Hid (Below w.heap.size w wr) := Lib.hid (bOn6 HB2.out hb)
    clear hs hb
    by_cases hlt : k < (outsL n.a X).length
    · obtain ⟨b, o, rfl, hcell⟩ := (HU.out.below HB.out).at hlt
      obtain ⟨z, hz, ez, ez2, -⟩ := outs_at hlt
      have HT : Hid (onwT n a (k + 1) = onwT n a k ++ [(z, oN n a z)]) := Lib.hid (by rw [onwT_succ (by rw [HXA.out]; exact hlt)]; simp only [HXA.out]; rw [ez, Int.toNat_natCast])
      have HL : Hid ((onwT n a k).length = k) := Lib.hid (onwT_length (by rw [HXA.out]; exact hk))
      rw [ez] at hcell
      have hli : (k : Int) < ((outsL n.a X).length : Int) := by omega
      have hblt := World.block_lt_of_cell? wr _ hcell
      have HOZ : Hid (ontoZ n a z = oN n a z) := Lib.hid (ontoZ_at hz)
      clear ez ez2
      go_wp2_with fail
      clear hcell
      refine (wonto_is (HG.out.old HB0.out) HN.out a z HOZ.out).mono ?_
      rintro e w3 ⟨rfl, hb3⟩
      have HB3 := Lib.hid (bOn6 HB.out hb3)
      have HS3 := Lib.hid (HS.out.below hb3)
      clear hb3 HS HB HB0
      obtain ⟨W4, hW4⟩ := named (w3.alloc (.cells #[.int .i64 z, .int .i64 (oN n a z)] 84))
      have hb4 : Below w3.heap.size w3 W4 := by rw [hW4]; exact below_alloc1 _
      have hk4 : Blk W4 w3.heap.size #[.int .i64 z, .int .i64 (oN n a z)] 84 := by rw [hW4]; exact Blk.new _ _ _ _ rfl
      obtain ⟨q2, c2, w5, hr, hown, hgrow⟩ := app2 (x := (z, oN n a z)) Tryz.underlying81 infoStep (HS3.out.below hb4) hk4 (by rw [HL.out]; omega) (by have := HB3.out.size; have := hb4.size; omega)
      have HB5 : Hid (Below w2.heap.size w2 w5) := Lib.hid (below_grownO (bOn6 HB3.out hb4) hgrow (fun g hg => own_ge HS3.out g hg))
      have HS5 : Hid (StepsO w5 w2.heap.size (.slice q2 (k + 1) c2) (onwT n a (k + 1))) := Lib.hid (by
        unfold StepsO
        rw [HT.out, List.length_append]
        have := hown
        rw [HL.out] at this ⊢
        exact this)
      rw [HL.out, hW4] at hr
      have HR := Lib.hid hr
      clear hr hown hgrow hb4 hk4 hW4 HS3 HB3
      go_wp2_with (at_builtin; refine wpList_append_run (by rfl) _ _ _ rfl _ _ _ rfl rfl HR.out ?_)
      go_roundw
      case rel => exact ⟨k + 1, hlt, by go_num, HS5.out, HB5.out⟩
      case measure => simp [intOf]; omega
    · have hkl : k = (outsL n.a X).length := by omega
      have HE : Hid (onwT n a k = onwL n a) := Lib.hid (by unfold onwT onwL; rw [HXA.out, hkl, List.take_length])
      have hnl : decide (k < (outsL n.a X).length) = false := by simpa using hlt
      clear hkl
      go_wp2_with fail
      go_ret
      exact ⟨_, rfl, by rw [← HE.out]; exact HS.out.base HZ, HB0.out⟩
end

end Go.Proofs.YtgihaakgadmidaaGreat

/-
  The program's walks: what may be right ahead of an arc; what a row of arcs costs.
-/
namespace Go.Proofs.YtgihaakgadmidaaGreat
open HP Go.RowKit

/-- The first k arcs, those that may be gone along. -/
def bckT (n : NetD) (b k : Nat) : List It := (((insL n.a (n.arc b).1).take k).filter fun a => decide (¬ wN n a.toNat = 1152921504606846976)).map fun a => (a.toNat, oN n a.toNat b)
section
variable {n : NetD} {b k : Nat}
theorem bckT_yes (h : k < (insL n.a (n.arc b).1).length) (hw : wN n (insL n.a (n.arc b).1)[k].toNat ≠ 1152921504606846976) : bckT n b (k + 1) = bckT n b k ++ [((insL n.a (n.arc b).1)[k].toNat, oN n (insL n.a (n.arc b).1)[k].toNat b)] := by
  unfold bckT
  rw [List.take_succ_eq_append_getElem h, List.filter_append, List.map_append]
  simp [hw]
theorem bckT_no (h : k < (insL n.a (n.arc b).1).length) (hw : wN n (insL n.a (n.arc b).1)[k].toNat = 1152921504606846976) : bckT n b (k + 1) = bckT n b k := by
  unfold bckT
  rw [List.take_succ_eq_append_getElem h, List.filter_append, List.map_append]
  simp [hw]
theorem bckT_length (k : Nat) : (bckT n b k).length ≤ k := by
  unfold bckT
  rw [List.length_map]
  have := List.length_filter_le (fun a => decide (¬ wN n a.toNat = 1152921504606846976)) ((insL n.a (n.arc b).1).take k)
  rw [List.length_take] at this
  omega
end
section
variable {P : Nat → Prop} {w : World} {p : Nat} {n : NetD} {va vt : Value}

set_option maxHeartbeats 4000000 in
set_option maxRecDepth 100000 in
theorem wbackward_is (h : GraphAt P w p n va vt) (hn : GrN n) {a : Nat} (ha : a < n.a.length) : Calls Tryz.prog 32 #[gp p, .int .i64 a] w (StepsPost w (bckL n a)) := by
  have HG := Lib.hid h
  have HN := Lib.hid hn
  obtain ⟨X, hX⟩ : ∃ X, n.a[a].1 = X := ⟨_, rfl⟩
  have hXa : (n.arc a).1 = X := by rw [NetGood.arc_at a ha]; exact hX
  have HX := Lib.hid hX
  have HXA := Lib.hid hXa
  have hsh := ins_short hn X
  have hpos : 0 ≤ (insL n.a X).length := Nat.zero_le _
  clear h hn hX hXa
  go_enter Tryz.func32, Tryz.ntmps32
  go_wp2_with fail
  refine (vFrom HG.out ha HX.out).mono ?_
  rintro e w1 ⟨rfl, hb1⟩
  have HB1 := Lib.hid hb1
  clear hb1
  go_wp2_with fail
  refine (vInsG (HG.out.old HB1.out) HN.out X rfl).mono ?_
  rintro e w2 ⟨u, rfl, hu, hb2⟩
  have HB2 := Lib.hid (bOn6 HB1.out hb2)
  obtain ⟨q, c, rfl⟩ := hu.shape
  have HU := Lib.hid hu
  have HZ : w.heap.size ≤ w2.heap.size := HB2.out.size
  clear hu hb2 HB1
  go_wp2_with fail
  go_loopw [5, 14] (fun sl iv wr => OnwRel w2 (bckT n a) (insL n.a X).length sl iv wr) (fun _ iv _ => (insL n.a X).length - (intOf iv).toNat)
  case atStart => exact ⟨0, Nat.zero_le _, rfl, World.ownsRow_nil _ _ _ _, Below.refl _ _⟩
  case round =>
    obtain ⟨k, hk, rfl, hs, hb⟩ := hrel
    have HS := Lib.hid hs
    have HB := Lib.hid hb
    have HB0 : Hid (Below w.heap.size w wr) := Lib.hid (bOn6 HB2.out hb)
    clear hs hb
    by_cases hlt : k < (insL n.a X).length
    · obtain ⟨b, o, rfl, hcell⟩ := (HU.out.below HB.out).at hlt
      obtain ⟨z, hz, ez, ez2, -⟩ := ins_at hlt
      have hle := bckT_length (n := n) (b := a) k
      rw [ez] at hcell
      have hli : (k : Int) < ((insL n.a X).length : Int) := by omega
      have hblt := World.block_lt_of_cell? wr _ hcell
      have HOZ : Hid (ontoZ n z a = oN n z a) := Lib.hid (ontoZ_at ha)
      by_cases hw : wN n z = 1152921504606846976
      · have HT : Hid (bckT n a (k + 1) = bckT n a k) := Lib.hid (bckT_no (by rw [HXA.out]; exact hlt) (by simp only [HXA.out]; rw [ez, Int.toNat_natCast]; exact hw))
        have HOP : Hid ((wt n z != 1152921504606846976) = false) := Lib.hid (by rw [wt_at hz, hw]; rfl)
        clear ez ez2 hw
        go_wp2_with fail
        clear hcell
        refine (wopen_is (HG.out.old HB0.out) z HOP.out).mono ?_
        rintro e w3 ⟨rfl, hb3⟩
        have HB3 := Lib.hid (bOn6 HB.out hb3)
        have HS3 := Lib.hid (HS.out.below hb3)
        clear hb3 HS HB HB0
        go_wp2_with fail
        go_roundw
        case rel => exact ⟨k + 1, hlt, by go_num, by rw [HT.out]; exact HS3.out, HB3.out⟩
        case measure => simp [intOf]; omega
      · have HT : Hid (bckT n a (k + 1) = bckT n a k ++ [(z, oN n z a)]) := Lib.hid (by
          have := bckT_yes (n := n) (b := a) (k := k) (by rw [HXA.out]; exact hlt) (by simp only [HXA.out]; rw [ez, Int.toNat_natCast]; exact hw)
          rw [this]
          simp only [HXA.out]
          rw [ez, Int.toNat_natCast])
        have HOP : Hid ((wt n z != 1152921504606846976) = true) := Lib.hid (by rw [wt_at hz]; simpa using hw)
        clear ez ez2 hw
        go_wp2_with fail
        clear hcell
        refine (wopen_is (HG.out.old HB0.out) z HOP.out).mono ?_
        rintro e w3 ⟨rfl, hb3⟩
        have HB3 := Lib.hid (bOn6 HB.out hb3)
        have HB03 := Lib.hid (bOn6 HB0.out hb3)
        have HS3 := Lib.hid (HS.out.below hb3)
        clear hb3 HS HB HB0
        go_wp2_with fail
        refine (wonto_is (HG.out.old HB03.out) HN.out z a HOZ.out).mono ?_
        rintro e w6 ⟨rfl, hb6⟩
        have HB6 := Lib.hid (bOn6 HB3.out hb6)
        have HS6 := Lib.hid (HS3.out.below hb6)
        clear hb6 HS3 HB3 HB03
        obtain ⟨W4, hW4⟩ := named (w6.alloc (.cells #[.int .i64 z, .int .i64 (oN n z a)] 84))
        have hb4 : Below w6.heap.size w6 W4 := by rw [hW4]; exact below_alloc1 _
        have hk4 : Blk W4 w6.heap.size #[.int .i64 z, .int .i64 (oN n z a)] 84 := by rw [hW4]; exact Blk.new _ _ _ _ rfl
        obtain ⟨L, hL⟩ : ∃ L, (bckT n a k).length = L := ⟨_, rfl⟩
        have HL := Lib.hid hL
        rw [hL] at hle
        clear hL
        obtain ⟨q2, c2, w5, hr, hown, hgrow⟩ := app2 (x := (z, oN n z a)) Tryz.underlying81 infoStep (HS6.out.below hb4) hk4 (by rw [HL.out]; omega) (by have := HB6.out.size; have := hb4.size; omega)
        have HB5 : Hid (Below w2.heap.size w2 w5) := Lib.hid (below_grownO (bOn6 HB6.out hb4) hgrow (fun g hg => own_ge HS6.out g hg))
        have HS5 : Hid (StepsO w5 w2.heap.size (.slice q2 (L + 1) c2) (bckT n a (k + 1))) := Lib.hid (by
          unfold StepsO
          rw [HT.out, List.length_append]
          have := hown
          rw [HL.out] at this ⊢
          exact this)
        rw [HL.out, hW4] at hr
        have HR := Lib.hid hr
        clear hr hown hgrow hb4 hk4 hW4 HS6 HB6
        go_wp2_with (at_builtin; refine wpList_append_run (by rfl) _ _ _ rfl _ _ _ rfl rfl HR.out ?_)
        go_roundw
        case rel => exact ⟨k + 1, hlt, by go_num, HS5.out, HB5.out⟩
        case measure => simp [intOf]; omega
    · have hkl : k = (insL n.a X).length := by omega
      have HE : Hid (bckT n a k = bckL n a) := Lib.hid (by unfold bckT bckL; rw [HXA.out, hkl, List.take_length])
      have hnl : decide (k < (insL n.a X).length) = false := by simpa using hlt
      clear hkl
      go_wp2_with fail
      go_ret
      exact ⟨_, rfl, by rw [← HE.out]; exact HS.out.base HZ, HB0.out⟩

theorem wcost_no (l : List Int) (u : Value) (w : World) (hl : l.length = 0) (hu : I64s w u l) : Calls Tryz.prog 18 #[gp p, u] w fun e w' => e = .returned (.int .i64 1152921504606846976) ∧ w = w' := by
  obtain rfl : l = [] := List.length_eq_zero_iff.1 hl
  obtain ⟨q, c, rfl⟩ := hu.shape
  clear hu hl
  go_enter Tryz.func18, Tryz.ntmps18
  go_wp2_with fail
  go_ret
  exact ⟨rfl, rfl⟩
/-- The sum so far. -/
def CostRel (w : World) (n : NetD) (l : List Int) (m : Nat) (sv iv : Value) (wr : World) : Prop :=
  ∃ k : Nat, k ≤ m ∧ iv = .int .i64 k ∧ sv = .int .i64 (n.costTo l (k + 1)) ∧ Below w.heap.size w wr

set_option maxHeartbeats 4000000 in
set_option maxRecDepth 100000 in
theorem wcost_shut (h : GraphAt P w p n va vt) {l : List Int} {b o c : Nat} {A : Int} (h0 : 0 < l.length) (hcell : w.cell? ⟨b, o, none⟩ = some (.int .i64 A)) (hop : (wt n A != 1152921504606846976) = false) : Calls Tryz.prog 18 #[gp p, .slice (some ⟨b, o, none⟩) l.length c] w fun e w' => e = .returned (.int .i64 1152921504606846976) ∧ Below w.heap.size w w' := by
  have hblt := World.block_lt_of_cell? w _ hcell
  have hne : ((l.length : Int) == 0) = false := beq_eq_false_iff_ne.2 (by omega)
  have HG := Lib.hid h
  have HOP := Lib.hid hop
  clear h hop
  go_enter Tryz.func18, Tryz.ntmps18
  go_wp2_with fail
  refine (wopen_is HG.out A HOP.out).mono ?_
  rintro e w1 ⟨rfl, hb1⟩
  have HB1 := Lib.hid hb1
  clear hb1
  go_wp2_with fail
  go_ret
  exact ⟨rfl, HB1.out⟩

set_option maxHeartbeats 4000000 in
set_option maxRecDepth 100000 in
theorem wcost_one (h : GraphAt P w p n va vt) {b o c : Nat} {A : Int} (hcell : w.cell? ⟨b, o, none⟩ = some (.int .i64 A)) (hop : (wt n A != 1152921504606846976) = true) : Calls Tryz.prog 18 #[gp p, .slice (some ⟨b, o, none⟩) 1 c] w fun e w' => e = .returned (.int .i64 0) ∧ Below w.heap.size w w' := by
  have hblt := World.block_lt_of_cell? w _ hcell
  have HG := Lib.hid h
  have HOP := Lib.hid hop
  clear h hop
  go_enter Tryz.func18, Tryz.ntmps18
  go_wp2_with fail
  refine (wopen_is HG.out A HOP.out).mono ?_
  rintro e w1 ⟨rfl, hb1⟩
  have HB1 := Lib.hid hb1
  clear hb1
  by_cases hc1 : c = 1
  all_goals
    go_wp2_with fail
    refine wp_loop_rounds 1 ?_
    rw [rounds_succ]
    go_wp2_with fail
    go_ret
    exact ⟨rfl, HB1.out⟩

set_option maxHeartbeats 4000000 in
set_option maxRecDepth 100000 in
theorem wcost_main (h : GraphAt P w p n va vt) (hn : GrN n) {l : List Int} {b o c m : Nat} {A : Int} (hc : ∀ i (h : i < l.length), w.cell? ⟨b, o + i, none⟩ = some (.int .i64 l[i])) (hl64 : l.length ≤ 9223372036854775807) (hlc : l.length ≤ c) (hm : l.length = m + 1) (hm1 : 1 ≤ m) (hA : l.getD 0 0 = A) (hop : (wt n A != 1152921504606846976) = true) :
    Calls Tryz.prog 18 #[gp p, .slice (some ⟨b, o, none⟩) (m + 1) c] w fun e w' => e = .returned (.int .i64 (n.costTo l (m + 1))) ∧ Below w.heap.size w w' := by
  have h0 : 0 < l.length := by omega
  have hcell := hc 0 h0
  rw [Nat.add_zero, show l[0] = A from by rw [← hA]; simp [h0]] at hcell
  have hblt := World.block_lt_of_cell? w _ hcell
  have hc1 : ¬ c = 1 := by omega
  have hmc : m + 1 ≤ c := by omega
  have hz : (((m : Int) + 1) == 0) = false := beq_eq_false_iff_ne.2 (by omega)
  have hm64 : m + 1 ≤ 9223372036854775807 := by omega
  have HG := Lib.hid h
  have HN := Lib.hid hn
  have HOP := Lib.hid hop
  have HC := Lib.hid hc
  have HM := Lib.hid hm
  clear h hn hop hA hc hm hlc hl64 h0
  go_enter Tryz.func18, Tryz.ntmps18
  go_wp2_with fail
  refine (wopen_is HG.out A HOP.out).mono ?_
  rintro e w1 ⟨rfl, hb1⟩
  have HB1 := Lib.hid hb1
  clear hb1 hcell
  go_wp2_with fail
  go_loopw [5, 6, 7, 22] (fun sv _ _ iv wr => CostRel w n l m sv iv wr) (fun _ _ _ iv _ => m - (intOf iv).toNat)
  case atStart => exact ⟨0, Nat.zero_le _, rfl, rfl, HB1.out⟩
  case round =>
    obtain ⟨k, hk, rfl, rfl, hb⟩ := hrel
    have HB := Lib.hid hb
    clear hb HB1
    obtain ⟨Sm, eS⟩ : ∃ S, n.costTo l (k + 1) = S := ⟨_, rfl⟩
    have hcb := n.costTo_lo l (k + 1)
    rw [eS] at hcb
    rw [eS]
    have ES := Lib.hid eS
    clear eS
    by_cases hlt : k < m
    · have hlm := HM.out
      have HK1 : Hid (k < l.length) := Lib.hid (by omega)
      have HK2 : Hid (k + 1 < l.length) := Lib.hid (by omega)
      have hli : (k : Int) < (m : Int) := by omega
      have hli2 : (k : Int) < ((m + 1 : Nat) : Int) := by omega
      have x1 := keep (bOn6 (Below.refl _ _) HB.out) (HC.out k HK1.out)
      have x2 := keep (bOn6 (Below.refl _ _) HB.out) (HC.out (k + 1) HK2.out)
      rw [show o + (k + 1) = o + 1 + k by omega] at x2
      have hbl := World.block_lt_of_cell? wr _ x1
      obtain ⟨x, eA⟩ : ∃ A, l[k]'HK1.out = A := ⟨_, rfl⟩
      obtain ⟨y, eB⟩ : ∃ B, l[k + 1]'HK2.out = B := ⟨_, rfl⟩
      rw [eA] at x1
      rw [eB] at x2
      have HST : Hid (n.costTo l (k + 2) = addC Sm (ontoZ n x y)) := Lib.hid (by
        rw [costTo_snoc, ES.out]
        congr 1
        rw [← eA, ← eB]
        congr 1
        · simp [HK1.out]
        · simp [HK2.out])
      have ho := addC_held (n.turn x y) (wt n y)
      obtain ⟨O, eO⟩ : ∃ O, ontoZ n x y = O := ⟨_, rfl⟩
      have EO := Lib.hid eO
      unfold ontoZ at eO
      rw [eO] at ho
      clear eA eB eO hlm
      go_wp2_with fail
      clear x1 x2
      refine (wonto_is (HG.out.old HB.out) HN.out x y EO.out).mono ?_
      rintro e w3 ⟨rfl, hb3⟩
      have HB3 := Lib.hid (bOn6 HB.out hb3)
      clear hb3
      go_wp2_with fail
      refine (add_any Sm O _ (by omega) (by omega) (by omega) (by omega)).mono ?_
      rintro e w4 ⟨rfl, rfl⟩
      go_wp2_with fail
      go_roundw
      case rel => exact ⟨k + 1, hlt, by go_num, by rw [HST.out, EO.out], HB3.out⟩
      case measure => simp [intOf]; omega
    · have hkm : k = m := by omega
      have HE : Hid (Sm = n.costTo l (m + 1)) := Lib.hid (by rw [← ES.out, hkm])
      have hnl : decide (k < m) = false := by simpa using hlt
      clear hkm
      go_wp2_with fail
      go_ret
      exact ⟨ret_int HE.out, HB.out⟩
theorem wcost_is (h : GraphAt P w p n va vt) (hn : GrN n) {l : List Int} {u : Value} (hu : I64s w u l) {X : Int} (hX : n.cost l = X) : Calls Tryz.prog 18 #[gp p, u] w fun e w' => e = .returned (.int .i64 X) ∧ Below w.heap.size w w' := by
  subst hX
  rcases hu with ⟨rfl, q, c, rfl, hq⟩ | ⟨hl64, b, o, c, hlc, hc64, rfl, hc⟩
  · rw [cost_shut (Or.inl rfl)]
    exact (wcost_no [] _ w rfl (Or.inl ⟨rfl, q, c, rfl, hq⟩)).mono (fun e w' h => ⟨h.1, h.2 ▸ Below.refl _ _⟩)
  · by_cases h0 : 0 < l.length
    · have hcell := hc 0 h0
      rw [Nat.add_zero] at hcell
      have hA : l[0] = l.getD 0 0 := by simp [h0]
      cases ho : n.stepOK l 0 with
      | false =>
        rw [cost_shut (Or.inr ho)]
        rw [hA] at hcell
        refine wcost_shut h h0 hcell ?_
        cases hq : (wt n (l.getD 0 0) != 1152921504606846976) with
        | false => rfl
        | true =>
          have : n.stepOK l 0 = true := stepOK_zero.2 (by simpa using hq)
          rw [ho] at this; cases this
      | true =>
        have hop : (wt n (l.getD 0 0) != 1152921504606846976) = true := by simpa using stepOK_zero.1 ho
        rw [cost_open h0 ho]
        by_cases h1 : l.length = 1
        · rw [h1]
          rw [hA] at hcell
          exact wcost_one h hcell hop
        · obtain ⟨m, hm⟩ : ∃ m, l.length = m + 1 := ⟨l.length - 1, by omega⟩
          have := wcost_main h hn hc hl64 hlc hm (by omega) rfl hop
          rw [← hm] at this
          exact this
    · have h1 : l = [] := List.length_eq_zero_iff.1 (by omega)
      subst h1
      rw [cost_shut (Or.inl rfl)]
      exact (wcost_no [] _ w rfl (Or.inl ⟨rfl, _, c, rfl, fun h => by cases h⟩)).mono (fun e w' h => ⟨h.1, h.2 ▸ Below.refl _ _⟩)
end

end Go.Proofs.YtgihaakgadmidaaGreat

/-
  One number of 64 bits, many times over.
-/
namespace Go.Proofs.YtgihaakgadmidaaGreat.HP.R64
open Go.RowKit

theorem infoInt : (Tryz.prog.info? 2).map (fun i => (i.zero, i.size, i.bytes)) = some (some (.int .i64 0), 1, 8) := by kernel_rfl
theorem infoInt1 : (Tryz.prog.info? 2).map (·.size) = some 1 := by kernel_rfl
theorem mul1 (n : Nat) (hn : n ≤ 16384) (w : World) : Calls Tryz.prog 87 #[.int .u64 1, .int .u64 n] w fun e w' => e = .returned (.tuple #[.int .u64 0, .int .u64 n]) ∧ w = w' := by
  refine (Tryz.bits_Mul 1 n (by decide) (by omega) w).mono ?_
  rintro e w' ⟨rfl, rfl⟩
  have h1 : (1 * n / 18446744073709551616 : Nat) = 0 := by omega
  have h2 : (1 * n % 18446744073709551616 : Nat) = n := by omega
  rw [h1, h2]
  exact ⟨rfl, rfl⟩
def repL (j n : Nat) (a z : Value) : List Value := List.replicate j a ++ List.replicate (n - j) z
theorem repL_len {j n : Nat} (h : j ≤ n) (a z : Value) : (repL j n a z).length = n := by unfold repL; simp; omega
theorem repL_splice {j n m : Nat} (a z : Value) (h : j + m ≤ n) : splice (repL j n a z) j (List.replicate m a) = repL (j + m) n a z := by
  unfold splice repL
  rw [List.take_left' (by simp), List.drop_append]
  simp only [List.length_replicate, List.drop_replicate, show j - (j + m) = 0 from by omega, show n - j - (j + m - j) = n - (j + m) from by omega, List.replicate_zero, List.nil_append]
  rw [← List.append_assoc, List.replicate_append_replicate]
theorem repL_get {j n i : Nat} (a z : Value) (h : i < j) : (repL j n a z)[i]? = some a := by
  unfold repL
  rw [List.getElem?_append_left (by simpa using h), List.getElem?_replicate, if_pos h]
theorem made1 (z : Value) (n : Nat) : madeCells #[z] n = (List.replicate n z).toArray := by
  apply Array.ext
  · simp [size_madeCells]
  · intro i h1 h2
    simp [madeCells, Nat.mod_one]
/-- The run of make for rows of one cell an element. -/
theorem make1 (w : World) (t e : TypeId) (z : Value) (by' : Nat) (hc : z.cells = #[z]) (ht : Tryz.prog.underlying t = some (.slice e)) (hinf : (Tryz.prog.info? e).map (fun i => (i.zero, i.size, i.bytes)) = some (some z, 1, by')) (n : Nat) (hn : n ≤ 16384) (hb : by' ≤ 8) :
    (Instr.makeSlice t (.int .i64 (n : Int)) (.int .i64 (n : Int))).run Tryz.prog w = .ok (.slice (some ⟨w.heap.size, 0, none⟩) n n) (w.alloc (.cells (List.replicate n z).toArray e)) := by
  obtain ⟨i0, hi, hz0, hz1, hz2⟩ := info_parts hinf
  have hbn : (i0.bytes : Int) * (n : Int) ≤ 281474976710656 := by
    have : i0.bytes * n ≤ 8 * 16384 := Nat.mul_le_mul (by omega) hn
    have h2 : ((i0.bytes * n : Nat) : Int) ≤ ((8 * 16384 : Nat) : Int) := by exact_mod_cast this
    rw [Int.natCast_mul] at h2
    omega
  have := run_make (P := Tryz.prog) w t e i0 z ht hi hz0 .i64 .i64 n n (by omega) (Int.le_refl _) hbn (by omega)
  rw [hz1, hc, Nat.mul_one, Int.toNat_natCast, made1] at this
  exact this
theorem copy1 {w : World} {b M : Nat} {a : Value} (hc : w.cell? ⟨b, 0, none⟩ = some a) (hM : M ≤ 1) {j : Nat} {v : Value} (hj : (List.replicate M a)[j]? = some v) : w.cell? ((⟨b, 0, none⟩ : Addr).add j) = some v := by
  rw [List.getElem?_replicate] at hj
  split at hj
  · injection hj with hj
    subst hj
    have : j = 0 := by omega
    subst this
    exact hc
  · cases hj
/-- The copies at a round's head. -/
def RepRel (w : World) (n : Nat) (v : Value) (wr : World) : Prop :=
  ∃ j : Nat, v = .int .i64 j ∧ j ≤ n ∧ (0 < n → 0 < j) ∧ wr.heap[w.heap.size]? = some (.cells (repL j n (.int .i64 1152921504606846976) (.int .i64 0)).toArray 2 (0, 0)) ∧ Below w.heap.size w wr
def RepPost (w : World) (n : Nat) (e : Ending) (w' : World) : Prop :=
  e = .returned (.slice (some ⟨w.heap.size, 0, none⟩) n n) ∧ Blk w' w.heap.size (List.replicate n (Value.int .i64 1152921504606846976)).toArray 2 ∧ Below w.heap.size w w'

/-- The row, so far. -/
def RepA (w : World) (n j : Nat) (wr : World) : Prop := wr.heap[w.heap.size]? = some (.cells (repL j n (.int .i64 1152921504606846976) (.int .i64 0)).toArray 2 (0, 0)) ∧ Below w.heap.size w wr
theorem RepA.copy {w wr : World} {n j m : Nat} (h : RepA w n j wr) (hm : m = Nat.min j (n - j)) (hjm : j + m ≤ n) :
    ∃ w9, (Builtin.copy_ #[36, 36] 3 #[.slice (some ⟨w.heap.size, j, none⟩) (n - j) (n - j), .slice (some ⟨w.heap.size, 0, none⟩) j n]).run Tryz.prog wr = .ok (.int .i64 m) w9 ∧ RepA w n (j + m) w9 ∧ wr.heap.size ≤ w9.heap.size := by
  obtain ⟨hg, hb⟩ := h
  have hrun := run_copy_row (P := Tryz.prog) wr 36 36 3 2 w.heap.size j (n - j) (n - j) ⟨w.heap.size, 0, none⟩ j n _ 2 (List.replicate m (.int .i64 1152921504606846976)) Tryz.underlying36 infoInt1 hg (by rw [List.length_replicate]; exact hm)
    (fun i v hi => by
      rw [List.getElem?_replicate] at hi
      split at hi
      · injection hi with hi
        subst hi
        have hij : i < j := by have h9 : Nat.min j (n - j) ≤ j := Nat.min_le_left _ _; omega
        have hadd : (⟨w.heap.size, 0, none⟩ : Addr).add i = ⟨w.heap.size, i, none⟩ := by unfold Addr.add; split <;> simp_all
        rw [hadd, cell_of_row wr w.heap.size i _ _ _ hg]
        simpa using repL_get (.int .i64 1152921504606846976) (.int .i64 0) hij
      · cases hi)
    (by rw [List.length_replicate]; simp only [List.size_toArray]; rw [repL_len (by omega)]; exact hjm) (fun v hv => by rw [List.eq_of_mem_replicate hv]; rfl)
  rw [List.length_replicate] at hrun
  refine ⟨_, hrun, ⟨?_, below_setRow hb (Nat.le_refl _) _⟩, by simp [World.setRow]⟩
  have := setRow_heap wr w.heap.size (repL j n (.int .i64 1152921504606846976) (.int .i64 0)).toArray ((repL j n (.int .i64 1152921504606846976) (.int .i64 0)).take j ++ (List.replicate m (Value.int .i64 1152921504606846976) ++ (repL j n (.int .i64 1152921504606846976) (.int .i64 0)).drop (j + m))).toArray 2 (0, 0) hg
  have e := repL_splice (j := j) (n := n) (m := m) (.int .i64 1152921504606846976) (.int .i64 0) hjm
  unfold splice at e
  rw [List.length_replicate] at e
  rw [e] at this
  simpa [e] using this

set_option maxHeartbeats 4000000 in
set_option maxRecDepth 100000 in
theorem hrepeat (n : Nat) (hn : n ≤ 16384) (b : Nat) (w : World) (hb : Blk w b #[.int .i64 1152921504606846976] 2) : Calls Tryz.prog 63 #[.slice (some ⟨b, 0, none⟩) 1 1, .int .i64 n] w (RepPost w n) := by
  obtain ⟨c0, f0⟩ := hb.o1
  have hblt := hb.lt
  have hni : (n : Int) ≤ 16384 := by omega
  have hn0 : (0 : Int) ≤ n := by omega
  have HB := Lib.hid hb
  have hmk := make1 w 36 2 (.int .i64 0) 8 rfl Tryz.underlying36 infoInt n hn (by decide)
  clear hb
  obtain ⟨M, hM1, hM2⟩ : ∃ M : Nat, M = Nat.min 1 n ∧ M ≤ n := ⟨_, rfl, Nat.min_le_right _ _⟩
  have hM3 : 0 < n → 0 < M := fun h => by rw [hM1]; exact Nat.lt_min.2 ⟨by omega, h⟩
  have hM4 : M ≤ 1 := by rw [hM1]; exact Nat.min_le_left _ _
  have HM1 := Lib.hid hM1
  have HM3 := Lib.hid hM3
  clear hM1 hM3
  obtain ⟨w1, hw1⟩ := named (w.alloc (.cells (List.replicate n (.int .i64 0)).toArray 2))
  have hb1 : Below w.heap.size w w1 := by rw [hw1]; exact below_new _
  have hg1 : w1.heap[w.heap.size]? = some (.cells (repL 0 n (.int .i64 1152921504606846976) (.int .i64 0)).toArray 2 (0, 0)) := by rw [hw1]; simpa [repL] using heap_alloc_new w (.cells (List.replicate n (.int .i64 0)).toArray 2)
  have hc1 := keep hb1 c0
  have HB1 := Lib.hid hb1
  have HG1 := Lib.hid hg1
  have HC1 := Lib.hid hc1
  rw [← hw1] at hmk
  clear hb1 hg1 hc1 hw1
  go_enter Tryz.func63, Tryz.ntmps63
  go_wp2_with fail
  refine (mul1 n hn _).mono ?_
  rintro e w' ⟨rfl, rfl⟩
  go_wp2_with (refine wpList_copy_splice rfl (.tmp 31) (.tmp 32) 36 36 rfl 2 Tryz.underlying36 infoInt1 (some ⟨w.heap.size, 0, none⟩) (some ⟨b, 0, none⟩) n n 1 1 rfl rfl w.heap.size 0 (repL 0 n (.int .i64 1152921504606846976) (.int .i64 0)) 2 HG1.out (List.replicate M (.int .i64 1152921504606846976)) (by rw [List.length_replicate]; exact HM1.out) (fun _ => ⟨rfl, _, rfl, fun j v hj => copy1 HC1.out hM4 hj⟩) (by rw [List.length_replicate, repL_len (Nat.zero_le _)]; omega) (fun v hv => by rw [List.eq_of_mem_replicate hv]; rfl) w.heap.size w HB1.out (Nat.le_refl _) ?_; intro w2 hg2 hb2)
  have HR2 : Hid (RepRel w n (.int .i64 M) w2) := Lib.hid ⟨M, rfl, hM2, HM3.out, by have := hg2.out; rw [repL_splice _ _ (by omega), Nat.zero_add] at this; exact this, hb2⟩
  clear hg2 hb2 HM1 HM3 hM4
  go_loopw [8] (fun v wr => RepRel w n v wr) (fun v _ => n - (intOf v).toNat)
  case atStart => exact HR2.out
  case round =>
    obtain ⟨j, rfl, hj, hj0, hg, hb⟩ := hrel
    clear HR2
    obtain ⟨wo, rfl⟩ : ∃ wo : World, wo = wr := ⟨_, rfl⟩
    by_cases hlt : j < n
    · have hjp := hj0 (by omega)
      obtain ⟨m, hm1, hm2, hm3⟩ : ∃ m : Nat, m = Nat.min j (n - j) ∧ j + m ≤ n ∧ 0 < m := ⟨_, rfl, by have h9 : Nat.min j (n - j) ≤ n - j := Nat.min_le_right _ _; omega, Nat.lt_min.2 ⟨hjp, by omega⟩⟩
      have HG := Lib.hid hg
      have HB := Lib.hid hb
      have HM := Lib.hid hm1
      have hs1 : IntKind.i64.wrap ((j : Int) + (m : Int)) = ((j + m : Nat) : Int) := by rw [IntWalk.i64_in _ (by omega)]; omega
      have hne : ¬ n = j := by omega
      have hjn : (j : Int) ≤ (n : Int) := by omega
      clear hg hb hm1 hj0
      go_wp2_with fail
      have A0 := Lib.hid (show RepA w n j wo.drew from ⟨HG.out, HB.out.drew⟩)
      refine' GG.wp_thenL _ 9 (GG.OneW 7 (RepA w n j) (RepA w n (j + m))) [[], [], [], [1, 2], [], [], [4, 5], [1, 2, 3, 4, 5, 6], [0, 1, 2, 3, 4, 5, 6, 7]] (GG.Fact.lit (Rl := GG.RlW) _ :: GG.Fact.lit (Rl := GG.RlW) _ :: GG.Fact.lit (Rl := GG.RlW) _ :: GG.Fact.lit (Rl := GG.RlW) _ :: GG.Fact.lit (Rl := GG.RlW) _ :: GG.Fact.lit (Rl := GG.RlW) _ :: GG.Fact.lit (Rl := GG.RlW) _ :: GG.Fact.lit (Rl := GG.RlW) _ :: GG.Fact.lit (Rl := GG.RlW) _ :: []) (by kernel_rfl) rfl (by kernel_rfl) (()) (GG.OneW.start A0.out) ?seqrp
      case' seqrp => skip
      (refine' GG.grow_lit (GG.OneW.still (by decide)) rfl ?wtrp0 ?runrp0 ?putrp0 ?nextrp0; (case wtrp0 => rfl); (case runrp0 => (intro w' hS; (obtain ⟨dn, s, hS⟩ := hS); clear hS; go_simp; first | done | exact rfl)); (case putrp0 => (first | (simp only [Act.put, List.setIfInBounds_toArray, List.set_cons_zero, List.set_cons_succ]; first | done | exact rfl) | rfl)); (case' nextrp0 => skip))
      (refine' GG.grow_lit (GG.OneW.still (by decide)) rfl ?wtrp1 ?runrp1 ?putrp1 ?nextrp1; (case wtrp1 => rfl); (case runrp1 => (intro w' hS; (obtain ⟨dn, s, hS⟩ := hS); clear hS; go_simp; first | done | exact rfl)); (case putrp1 => (first | (simp only [Act.put, List.setIfInBounds_toArray, List.set_cons_zero, List.set_cons_succ]; first | done | exact rfl) | rfl)); (case' nextrp1 => skip))
      (refine' GG.grow_lit (GG.OneW.still (by decide)) rfl ?wtrp2 ?runrp2 ?putrp2 ?nextrp2; (case wtrp2 => rfl); (case runrp2 => (intro w' hS; (obtain ⟨dn, s, hS⟩ := hS); clear hS; go_simp; first | done | exact rfl)); (case putrp2 => (first | (simp only [Act.put, List.setIfInBounds_toArray, List.set_cons_zero, List.set_cons_succ]; first | done | exact rfl) | rfl)); (case' nextrp2 => skip))
      (refine' GG.grow_lit (GG.OneW.still (by decide)) rfl ?wtrp3 ?runrp3 ?putrp3 ?nextrp3; (case wtrp3 => rfl); (case runrp3 => (intro w' hS; (obtain ⟨dn, s, hS⟩ := hS); clear hS; go_simp; first | done | exact rfl)); (case putrp3 => (first | (simp only [Act.put, List.setIfInBounds_toArray, List.set_cons_zero, List.set_cons_succ]; first | done | exact rfl) | rfl)); (case' nextrp3 => skip))
      (refine' GG.grow_lit (GG.OneW.still (by decide)) rfl ?wtrp4 ?runrp4 ?putrp4 ?nextrp4; (case wtrp4 => rfl); (case runrp4 => (intro w' hS; (obtain ⟨dn, s, hS⟩ := hS); clear hS; go_simp; first | done | exact rfl)); (case putrp4 => (first | (simp only [Act.put, List.setIfInBounds_toArray, List.set_cons_zero, List.set_cons_succ]; first | done | exact rfl) | rfl)); (case' nextrp4 => skip))
      (refine' GG.grow_lit (GG.OneW.still (by decide)) rfl ?wtrp5 ?runrp5 ?putrp5 ?nextrp5; (case wtrp5 => rfl); (case runrp5 => (intro w' hS; (obtain ⟨dn, s, hS⟩ := hS); clear hS; go_simp; first | done | exact rfl)); (case putrp5 => (first | (simp only [Act.put, List.setIfInBounds_toArray, List.set_cons_zero, List.set_cons_succ]; first | done | exact rfl) | rfl)); (case' nextrp5 => skip))
      (refine' GG.grow_lit (GG.OneW.still (by decide)) rfl ?wtrp6 ?runrp6 ?putrp6 ?nextrp6; (case wtrp6 => rfl); (case runrp6 => (intro w' hS; (obtain ⟨dn, s, hS⟩ := hS); clear hS; go_simp; first | done | exact rfl)); (case putrp6 => (first | (simp only [Act.put, List.setIfInBounds_toArray, List.set_cons_zero, List.set_cons_succ]; first | done | exact rfl) | rfl)); (case' nextrp6 => skip))
      (refine' GG.grow_write (u := .int .i64 m) rfl ?wtrp7 ?runrp7 ?putrp7 ?nextrp7; (case wtrp7 => rfl); (case runrp7 => (intro dn s w' hS hd H; obtain ⟨w9, hr9, h9, hz9⟩ := (hS.g0 hd).copy HM.out hm2; exact ⟨(), w9, (by clear hS H; go_simp), GG.OneW.put h9, trivial, hz9⟩)); (case putrp7 => (first | (simp only [Act.put, List.setIfInBounds_toArray, List.set_cons_zero, List.set_cons_succ]; first | done | exact rfl) | rfl)); (case' nextrp7 => skip))
      (refine' GG.grow_lit (GG.OneW.still (by decide)) rfl ?wtrp8 ?runrp8 ?putrp8 ?nextrp8; (case wtrp8 => rfl); (case runrp8 => (intro w' hS; (obtain ⟨dn, s, hS⟩ := hS); clear hS; go_simp; first | done | exact rfl)); (case putrp8 => (first | (simp only [Act.put, List.setIfInBounds_toArray, List.set_cons_zero, List.set_cons_succ]; first | done | exact rfl) | rfl)); (case' nextrp8 => skip))
      intro dn s W1 hS hdn _
      have HA1 := Lib.hid (hS.g1 (hdn 7 (by decide)))
      clear hS hdn A0 HG HB HM
      refine wpAny_ready (rs := [9]) (by kernel_rfl) (by simp) (AllReady.cons rfl (fun K hK => ?_) AllReady.nil)
      go_simp
      refine hK _ _ ?_
      clear hK K
      refine wpAny_done (by kernel_rfl) ?_ _
      go_wp2_with fail
      go_roundw
      case rel => exact ⟨j + m, rfl, hm2, fun _ => by omega, HA1.out.1, HA1.out.2⟩
      case measure => simp [intOf]; omega
    · have hjn : j = n := by omega
      have HG := Lib.hid hg
      have HB := Lib.hid hb
      have hdl : decide (j < n) = false := by simpa using hlt
      clear hg hb hj0 hlt
      go_wp2_with fail
      go_ret
      exact ⟨rfl, by have := HG.out; rw [hjn] at this; unfold repL at this; rw [Nat.sub_self, List.replicate_zero, List.append_nil] at this; exact this, HB.out⟩

theorem hrepeat_z {n : Nat} (z : Int) (hn : n ≤ 16384) (hz : z = (n : Int)) (b : Nat) (w : World) (hb : Blk w b #[.int .i64 1152921504606846976] 2) : Calls Tryz.prog 63 #[.slice (some ⟨b, 0, none⟩) 1 1, .int .i64 z] w (RepPost w n) := by
  subst hz
  exact hrepeat n hn b w hb
end Go.Proofs.YtgihaakgadmidaaGreat.HP.R64

/-
  A heap beside protected blocks; the tree of costs and of the arcs ahead, as it lies in memory.
-/
namespace Go.Proofs.YtgihaakgadmidaaGreat
open HP Go.RowKit

theorem keep_of_hp {P : Nat → Prop} {w w' : World} (h : HP.Keep P w w') : Keep P w w' := ⟨h.os, h.tape, h.output, h.size, h.block⟩
/-- A heap at p, none of whose blocks was there in w0, or is of bs. -/
def Hk (w0 w : World) (p N : Nat) (m : Nat → Option Int) (bs : List Nat) : Prop := ∃ S, HpAt S w p N m ∧ (∀ b, b < w0.heap.size → ¬ S b) ∧ ∀ b, b ∈ bs → ¬ S b
/-- What stays beside it. -/
def HkK (w0 : World) (bs : List Nat) (b : Nat) : Prop := b < w0.heap.size ∨ b ∈ bs
section
variable {w0 w w' : World} {p N : Nat} {m : Nat → Option Int} {bs : List Nat}
theorem Hk.old (h : Hk w0 w p N m bs) (hb : Below w.heap.size w w') : Hk w0 w' p N m bs := by
  obtain ⟨S, h1, h2, h3⟩ := h
  exact ⟨S, h1.old hb, h2, h3⟩
/-- New blocks are protected, too. -/
theorem Hk.add (h : Hk w0 w p N m bs) {qs : List Nat} (hq : ∀ q, q ∈ qs → w.heap.size ≤ q) : Hk w0 w p N m (qs ++ bs) := by
  obtain ⟨S, h1, h2, h3⟩ := h
  refine ⟨fun b => S b ∧ b < w.heap.size, h1.mono (fun b h h' => ⟨h', h⟩), fun b hb h => h2 b hb h.1, fun b hb h => ?_⟩
  rcases List.mem_append.1 hb with hb | hb
  · have := hq b hb
    omega
  · exact h3 b hb h.1
theorem Hk.sub (h : Hk w0 w p N m bs) {qs : List Nat} (hq : ∀ q, q ∈ qs → q ∈ bs) : Hk w0 w p N m qs := by
  obtain ⟨S, h1, h2, h3⟩ := h
  exact ⟨S, h1, h2, fun b hb => h3 b (hq b hb)⟩
/-- Writing a protected block leaves it. -/
theorem Hk.keep {Q : Nat → Prop} (h : Hk w0 w p N m bs) (hk : Keep Q w w') (hq : ∀ b, b ∉ bs → Q b) : Hk w0 w' p N m bs := by
  obtain ⟨S, h1, h2, h3⟩ := h
  exact ⟨S, h1.keep (Q := Q) ⟨hk.os, hk.tape, hk.output, hk.size, hk.block⟩ (fun b _ hs => hq b (fun hb => h3 b hb hs)), h2, h3⟩
theorem Hk.put (h : Hk w0 w p N m bs) (hz : w0.heap.size ≤ w.heap.size) (hbs : ∀ b, b ∈ bs → b < w.heap.size) (k c : Int) (k0 : -9223372036854775808 ≤ k) (k1 : k ≤ 9223372036854775807) (c0 : -9223372036854775808 ≤ c) (c1 : c ≤ 9223372036854775807) {B : Bool} (hB : putB N m k c = B) :
    Calls Tryz.prog 66 #[hp p, .int .i64 k, .int .i64 c] w fun e w' => e = .returned (.bool B) ∧ Hk w0 w' p N (putM N m k c) bs ∧ Keep (HkK w0 bs) w w' := by
  obtain ⟨S, h1, h2, h3⟩ := h
  subst hB
  refine (vput h1 k c k0 k1 c0 c1).mono ?_
  rintro e w' ⟨rfl, h4, h5⟩
  refine ⟨rfl, ⟨_, h4, fun b hb hp => ?_, fun b hb hp => ?_⟩, (keep_of_hp h5).mono (fun b hb => ?_)⟩
  · rcases hp with hp | hp
    · exact h2 b hb hp
    · omega
  · rcases hp with hp | hp
    · exact h3 b hb hp
    · have := hbs b hb
      omega
  · rcases hb with hb | hb
    · exact h2 b hb
    · exact h3 b hb
theorem Hk.pop (h : Hk w0 w p N m bs) (hz : w0.heap.size ≤ w.heap.size) (hbs : ∀ b, b ∈ bs → b < w.heap.size) {x : Int × Int × Bool} (hx : popV N m = x) :
    Calls Tryz.prog 67 #[hp p] w fun e w' => e = .returned (popT x) ∧ Hk w0 w' p N (popM N m) bs ∧ Keep (HkK w0 bs) w w' := by
  obtain ⟨S, h1, h2, h3⟩ := h
  subst hx
  refine (vpop h1).mono ?_
  rintro e w' ⟨rfl, h4, h5⟩
  refine ⟨rfl, ⟨_, h4, fun b hb hp => ?_, fun b hb hp => ?_⟩, (keep_of_hp h5).mono (fun b hb => ?_)⟩
  · rcases hp with hp | hp
    · exact h2 b hb hp
    · omega
  · rcases hp with hp | hp
    · exact h3 b hb hp
    · have := hbs b hb
      omega
  · rcases hb with hb | hb
    · exact h2 b hb
    · exact h3 b hb
/-- A new one. -/
theorem Hk.new (w0 w : World) (hz : w0.heap.size ≤ w.heap.size) {bs : List Nat} (hbs : ∀ b, b ∈ bs → b < w.heap.size) {N : Nat} (hN : N ≤ 16384) : Calls Tryz.prog 65 #[.int .i64 N] w fun e w' => ∃ p, e = .returned (hp p) ∧ Hk w0 w' p N (fun _ => none) bs ∧ Below w.heap.size w w' := by
  refine (hnew_any N w (by omega) (by omega)).mono ?_
  rintro e w' ⟨p, rfl, h, hb⟩
  have hk : keysN (N : Int) = N := by unfold keysN; rw [if_neg (by omega), if_neg (by omega), Int.toNat_natCast]
  rw [hk] at h
  exact ⟨p, rfl, ⟨_, h, fun b hb hp => by omega, fun b hb hp => by have := hbs b hb; omega⟩, hb⟩
end
/-- The cells of a row of numbers. -/
abbrev numC (C : List Int) : Array Value := (C.map (Value.int .i64)).toArray
/-- A tree of N arcs at tb: its costs at cb, the arcs ahead at bb. -/
structure TreeAt (w : World) (N tb cb bb : Nat) (C B : List Int) : Prop where
  t : Blk w tb #[.slice (some ⟨cb, 0, none⟩) N N, .slice (some ⟨bb, 0, none⟩) N N] 73
  c : Blk w cb (numC C) 2
  b : Blk w bb (numC B) 3
  cl : C.length = N
  bl : B.length = N
section
variable {w w' : World} {N tb cb bb : Nat} {C B : List Int}
theorem TreeAt.keep {Q : Nat → Prop} (h : TreeAt w N tb cb bb C B) (hk : Keep Q w w') (ht : Q tb) (hc : Q cb) (hb : Q bb) : TreeAt w' N tb cb bb C B := ⟨hk.blk h.t ht, hk.blk h.c hc, hk.blk h.b hb, h.cl, h.bl⟩
theorem TreeAt.old (h : TreeAt w N tb cb bb C B) (hb : Below w.heap.size w w') : TreeAt w' N tb cb bb C B := ⟨h.t.keep hb, h.c.keep hb, h.b.keep hb, h.cl, h.bl⟩
theorem blk_apart {b1 b2 : Nat} {c1 c2 : Array Value} {t1 t2 : TypeId} (h1 : Blk w b1 c1 t1) (h2 : Blk w b2 c2 t2) (hne : t1 ≠ t2) : b1 ≠ b2 := by
  rintro rfl
  unfold Blk at h1 h2
  rw [h1] at h2
  injection h2 with h2
  injection h2 with _ h2
  exact hne h2
/-- A cost is written. -/
theorem TreeAt.setC (h : TreeAt w N tb cb bb C B) (a : Nat) (x : Int) : TreeAt (w.setCell ⟨cb, a, none⟩ (.int .i64 x)) N tb cb bb (C.set a x) B := by
  refine ⟨h.t.other _ _ (blk_apart h.t h.c (by decide)), ?_, h.b.other _ _ (blk_apart h.b h.c (by decide)), by rw [List.length_set]; exact h.cl, h.bl⟩
  have := h.c.set a (.int .i64 x)
  unfold numC at this ⊢
  rw [List.map_set]
  simpa using this
theorem TreeAt.setB (h : TreeAt w N tb cb bb C B) (a : Nat) (x : Int) : TreeAt (w.setCell ⟨bb, a, none⟩ (.int .i64 x)) N tb cb bb C (B.set a x) := by
  refine ⟨h.t.other _ _ (blk_apart h.t h.b (by decide)), h.c.other _ _ (blk_apart h.c h.b (by decide)), ?_, h.cl, by rw [List.length_set]; exact h.bl⟩
  have := h.b.set a (.int .i64 x)
  unfold numC at this ⊢
  rw [List.map_set]
  simpa using this
theorem numC_at {C : List Int} {a : Nat} (h : a < C.length) : (numC C)[a]? = some (.int .i64 C[a]) := by simp [numC, h]
end

/-- What grow has in memory: what it will answer at rb, the tree, the heap; xs: what else must stay. -/
structure Gs (w wr : World) (N rb tb cb bb hb : Nat) (xs : List Nat) (C B : List Int) (m : Nat → Option Int) : Prop where
  t : TreeAt wr N tb cb bb C B
  r : Blk wr rb #[.slice none 0 0, .slice none 0 0] 73
  h : Hk w wr hb N m (xs ++ [rb, tb, cb, bb])
  b : Below w.heap.size w wr
  x : ∀ q, q ∈ xs → q < wr.heap.size
  c0 : w.heap.size ≤ cb
  b0 : w.heap.size ≤ bb
  ord : rb < tb
section
variable {w wr w' : World} {N rb tb cb bb hb : Nat} {xs : List Nat} {C B : List Int} {m : Nat → Option Int}
theorem Gs.old (g : Gs w wr N rb tb cb bb hb xs C B m) (h : Below wr.heap.size wr w') : Gs w w' N rb tb cb bb hb xs C B m :=
  ⟨g.t.old h, g.r.keep h, g.h.old h, bOn6 g.b h, fun q hq => Nat.lt_of_lt_of_le (g.x q hq) h.size, g.c0, g.b0, g.ord⟩
theorem Gs.add (g : Gs w wr N rb tb cb bb hb xs C B m) (h : Below wr.heap.size wr w') {ys : List Nat} (hy : ∀ q, q ∈ ys → wr.heap.size ≤ q ∧ q < w'.heap.size) : Gs w w' N rb tb cb bb hb (ys ++ xs) C B m := by
  refine ⟨g.t.old h, g.r.keep h, ?_, bOn6 g.b h, fun q hq => ?_, g.c0, g.b0, g.ord⟩
  · rw [List.append_assoc]
    exact (g.h.add (fun q hq => (hy q hq).1)).old h
  · rcases List.mem_append.1 hq with hq | hq
    · exact (hy q hq).2
    · exact Nat.lt_of_lt_of_le (g.x q hq) h.size
theorem Gs.drop {ys : List Nat} (g : Gs w wr N rb tb cb bb hb (ys ++ xs) C B m) : Gs w wr N rb tb cb bb hb xs C B m :=
  ⟨g.t, g.r, g.h.sub (fun q hq => by rw [List.append_assoc]; exact List.mem_append.2 (Or.inr hq)), g.b, fun q hq => g.x q (List.mem_append.2 (Or.inr hq)), g.c0, g.b0, g.ord⟩
theorem Gs.lt (g : Gs w wr N rb tb cb bb hb xs C B m) : ∀ q, q ∈ xs ++ [rb, tb, cb, bb] → q < wr.heap.size := fun q hq => by
  rcases List.mem_append.1 hq with hq | hq
  · exact g.x q hq
  · simp at hq
    rcases hq with rfl | rfl | rfl | rfl
    · exact g.r.lt
    · exact g.t.t.lt
    · exact g.t.c.lt
    · exact g.t.b.lt
theorem Gs.keepH (g : Gs w wr N rb tb cb bb hb xs C B m) {m' : Nat → Option Int} (h : Hk w w' hb N m' (xs ++ [rb, tb, cb, bb])) (k : Keep (HkK w (xs ++ [rb, tb, cb, bb])) wr w') : Gs w w' N rb tb cb bb hb xs C B m' :=
  ⟨g.t.keep k (Or.inr (by simp)) (Or.inr (by simp)) (Or.inr (by simp)), k.blk g.r (Or.inr (by simp)), h, g.b.trans (k.below (fun b hb => Or.inl hb) g.b.size), fun q hq => Nat.lt_of_lt_of_le (g.x q hq) k.size, g.c0, g.b0, g.ord⟩
theorem Gs.put (g : Gs w wr N rb tb cb bb hb xs C B m) (k c : Int) (k0 : -9223372036854775808 ≤ k) (k1 : k ≤ 9223372036854775807) (c0 : -9223372036854775808 ≤ c) (c1 : c ≤ 9223372036854775807) {b : Bool} (hB : putB N m k c = b) {m' : Nat → Option Int} (hm : putM N m k c = m') :
    Calls Tryz.prog 66 #[hp hb, .int .i64 k, .int .i64 c] wr fun e w' => e = .returned (.bool b) ∧ Gs w w' N rb tb cb bb hb xs C B m' ∧ Keep (HkK w (xs ++ [rb, tb, cb, bb])) wr w' := by
  subst hm
  refine (g.h.put g.b.size g.lt k c k0 k1 c0 c1 hB).mono ?_
  rintro e w' ⟨rfl, h1, h2⟩
  exact ⟨rfl, g.keepH h1 h2, h2⟩
theorem Gs.pop (g : Gs w wr N rb tb cb bb hb xs C B m) {x : Int × Int × Bool} (hx : popV N m = x) {m' : Nat → Option Int} (hm : popM N m = m') :
    Calls Tryz.prog 67 #[hp hb] wr fun e w' => e = .returned (popT x) ∧ Gs w w' N rb tb cb bb hb xs C B m' := by
  subst hm
  refine (g.h.pop g.b.size g.lt hx).mono ?_
  rintro e w' ⟨rfl, h1, h2⟩
  exact ⟨rfl, g.keepH h1 h2⟩
theorem Gs.setC (g : Gs w wr N rb tb cb bb hb xs C B m) (a : Nat) (x : Int) : Gs w (wr.setCell ⟨cb, a, none⟩ (.int .i64 x)) N rb tb cb bb hb xs (C.set a x) B m := by
  have hk : Keep (fun b => b ≠ cb) wr (wr.setCell ⟨cb, a, none⟩ (.int .i64 x)) := (Keep.refl _ _).setCell (fun h => h rfl) _ _
  exact ⟨g.t.setC a x, g.r.other _ _ (blk_apart g.r g.t.c (by decide)), g.h.keep hk (fun b hb e => hb (by simp [e])), g.b.trans (hk.below (fun b hb => by have := g.c0; omega) g.b.size), fun q hq => Nat.lt_of_lt_of_le (g.x q hq) hk.size, g.c0, g.b0, g.ord⟩
theorem Gs.setB (g : Gs w wr N rb tb cb bb hb xs C B m) (a : Nat) (x : Int) : Gs w (wr.setCell ⟨bb, a, none⟩ (.int .i64 x)) N rb tb cb bb hb xs C (B.set a x) m := by
  have hk : Keep (fun b => b ≠ bb) wr (wr.setCell ⟨bb, a, none⟩ (.int .i64 x)) := (Keep.refl _ _).setCell (fun h => h rfl) _ _
  exact ⟨g.t.setB a x, g.r.other _ _ (blk_apart g.r g.t.b (by decide)), g.h.keep hk (fun b hb e => hb (by simp [e])), g.b.trans (hk.below (fun b hb => by have := g.b0; omega) g.b.size), fun q hq => Nat.lt_of_lt_of_le (g.x q hq) hk.size, g.c0, g.b0, g.ord⟩
theorem Gs.drew (g : Gs w wr N rb tb cb bb hb xs C B m) : Gs w wr.drew N rb tb cb bb hb xs C B m := g.old (Below.refl _ _).drew
end
/-- The cells of a world as a row. -/
def cellI : Option Value → Int
  | some (.int _ x) => x
  | _ => 0
def potW (w : World) (cb N : Nat) : Nat := potL ((List.range N).map fun i => cellI (w.cell? ⟨cb, i, none⟩))
theorem TreeAt.pot {w : World} {N tb cb bb : Nat} {C B : List Int} (h : TreeAt w N tb cb bb C B) : potW w cb N = potL C := by
  unfold potW
  congr 1
  refine List.ext_getElem (by simp [h.cl]) (fun i h1 h2 => ?_)
  rw [List.getElem_map, List.getElem_range, h.c.cell i (numC_at h2)]
  rfl
/-- All steps of what is out have been looked at. -/
def Eall (L : Nat → List It) (D : List Nat) : Nat → It → Prop := fun a y => a ∈ D ∧ y ∈ L a
/-- .. and the first k of a's. -/
def Ek (L : Nat → List It) (D : List Nat) (a k : Nat) : Nat → It → Prop := fun a' y => Eall L D a' y ∨ (a' = a ∧ y ∈ (L a).take k)
theorem Ek_zero {L : Nat → List It} {D : List Nat} {a : Nat} (a' : Nat) (y : It) (h : Ek L D a 0 a' y) : Eall L D a' y := by
  rcases h with h | ⟨-, h⟩
  · exact h
  · simp at h
theorem Ek_succ {L : Nat → List It} {D : List Nat} {a k : Nat} (hk : k < (L a).length) (a' : Nat) (y : It) (h : Ek L D a (k + 1) a' y) : Eadd (Ek L D a k) a (L a)[k] a' y := by
  rcases h with h | ⟨h1, h⟩
  · exact Or.inl (Or.inl h)
  · rw [List.take_succ_eq_append_getElem hk] at h
    rcases List.mem_append.1 h with h | h
    · exact Or.inl (Or.inr ⟨h1, h⟩)
    · exact Or.inr ⟨h1, List.mem_singleton.1 h⟩
theorem Ek_all {L : Nat → List It} {D : List Nat} {a k : Nat} (hk : (L a).length ≤ k) (a' : Nat) (y : It) (h : Eall L (a :: D) a' y) : Ek L D a k a' y := by
  obtain ⟨h1, h2⟩ := h
  rcases List.mem_cons.1 h1 with rfl | h1
  · exact Or.inr ⟨rfl, by rw [List.take_of_length_le hk]; exact h2⟩
  · exact Or.inl ⟨h1, h2⟩

end Go.Proofs.YtgihaakgadmidaaGreat
