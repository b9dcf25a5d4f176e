/-
  The program's walks: steps that are kept where their arcs are within.
-/
import Derived.Test.YtgihaakgadmidaaGreatK6
import Derived.Laws.IdiomCopy
import Derived.Lib.SliceRun
import Derived.Test.YtgihaakgadmidaaGreatGrow
import Derived.RegionTactic
import Derived.Test.YtgihaakgadmidaaGreatE6
namespace Go.Proofs.YtgihaakgadmidaaGreat
open HP Go.RowKit

/-! ### clear, at structs of two numbers -/
theorem setCells_blk {g : Nat} {t : TypeId} {m : Nat} : ∀ (vs : List Value) (o : Nat) (w : World) (cur : Array Value), m ≤ o → Blk w g cur t → ∃ cur', Blk (w.setCells g o vs) g cur' t ∧ cur'.size = cur.size ∧ cur'.toList.take m = cur.toList.take m
  | [], _, _, cur, _, h => ⟨cur, h, rfl, rfl⟩
  | v :: r, o, w, cur, hm, h => by
    obtain ⟨cur', h1, h2, h3⟩ := setCells_blk r (o + 1) _ _ (Nat.le_succ_of_le hm) (h.set o v)
    refine ⟨cur', h1, by simpa using h2, ?_⟩
    rw [h3, Array.toList_setIfInBounds, List.take_set_of_le hm]
theorem setCells_below {B g : Nat} (hg : B ≤ g) {a : World} : ∀ (vs : List Value) (o : Nat) (w : World), Below B a w → Below B a (w.setCells g o vs)
  | [], _, _, h => h
  | v :: r, o, _, h => setCells_below hg r (o + 1) _ (h.setCell hg v)
theorem run_clear2 {P : Program} (w : World) (t e : TypeId) (ht : P.underlying t = some (.slice e)) (hv : ∀ w, (zeroValue e).run P w = .ok (.agg #[.int .i64 0, .int .i64 0]) w) (b o n c : Nat) (hn : 0 < n)
    (hc : ∀ j, j < n * 2 → (w.cell? ⟨b, o + j, none⟩).isSome = true) (hf : ∀ j, j < n * 2 → w.frozen? ⟨b, o + j, none⟩ = false) :
    ∃ vs, ∀ ty, (Builtin.clear_ #[t] ty #[.slice (some ⟨b, o, none⟩) n c]).run P w = .ok (.tuple #[]) (w.setCells b o vs) := by
  obtain ⟨vs, hvs⟩ : ∃ vs, vs = (Builtin.zeroCells (Value.agg #[.int .i64 0, .int .i64 0]).cells n).toList := ⟨_, rfl⟩
  have hlen : vs.length = n * 2 := by rw [hvs]; simp [Builtin.zeroCells, Value.cells]
  have hone : ∀ v ∈ vs, v.oneCell' = true := fun v hv => by
    rw [hvs] at hv
    simp [Builtin.zeroCells, Value.cells] at hv
    obtain ⟨i, -, rfl⟩ := hv
    rcases Nat.mod_two_eq_zero_or_one i with h | h <;> simp [h] <;> rfl
  have hst := run_storeCells_cells (P := P) b o vs 0 w (by rw [hlen]; simpa using hc) (by rw [hlen]; simpa using hf) hone
  simp only [Nat.add_zero] at hst
  obtain ⟨m, rfl⟩ : ∃ m, n = m + 1 := ⟨n - 1, by omega⟩
  refine ⟨vs, fun ty => ?_⟩
  simp [Builtin.clear_, run_underlying ht, hv, ← hvs, hst]

/-! ### what is not within -/
/-- The place of the first that is not within; -1: there is none. -/
def IdxQ (I : Nat → Bool) (R : List It) (i : Int) : Prop :=
  (i = -1 ∧ ∀ y, y ∈ R → I y.1 = true) ∨ ∃ k, ∃ h : k < R.length, i = (k : Int) ∧ I (R[k]).1 = false ∧ ∀ y, y ∈ R.take k → I y.1 = true
def IdxPost (w : World) (I : Nat → Bool) (R : List It) (e : Ending) (w' : World) : Prop := ∃ i, e = .returned (.int .i64 i) ∧ IdxQ I R i ∧ Below w.heap.size w w'
/-- The boxes of what a function has caught: the graph's pointer, the marks. -/
structure Caught (w : World) (p : Nat) (l : List Bool) (gb ib : Nat) : Prop where
  g : Blk w gb #[gp p] 29
  i : ∃ u, Blk w ib #[u] 38 ∧ Bools w u l
theorem Caught.below {w w' : World} {p : Nat} {l : List Bool} {gb ib : Nat} (h : Caught w p l gb ib) (hb : Below w.heap.size w w') : Caught w' p l gb ib := by
  obtain ⟨hg, u, h1, h2⟩ := h
  exact ⟨hg.keep hb, u, h1.keep hb, h2.below hb⟩
section
variable {P : Nat → Prop} {w : World} {p : Nat} {n : NetD} {va vt : Value} {l : List Bool} {gb ib : Nat}

set_option maxHeartbeats 2000000 in
set_option maxRecDepth 100000 in
theorem wout_is (h : GraphAt P w p n va vt) (hn : GrN n) (hc : Caught w p l gb ib) {y : It} (hy : y.1 < n.a.length) {B : Bool} (hB : insB n l y.1 = B) :
    Calls Tryz.prog 42 #[.agg #[.int .i64 y.1, .int .i64 y.2], .pointer (some ⟨gb, 0, none⟩), .pointer (some ⟨ib, 0, none⟩)] w fun e w' => e = .returned (.bool (!B)) ∧ Below w.heap.size w w' := by
  have HG := Lib.hid h
  have HN := Lib.hid hn
  have HC := Lib.hid hc
  have HB := Lib.hid hB
  obtain ⟨yb, yd⟩ := y
  simp only [] at hy HB
  clear h hn hc hB
  go_enter Tryz.func42, Tryz.ntmps42
  obtain ⟨W0, hW0⟩ := named (w.alloc (.cells #[.int .i64 yb, .int .i64 yd] 84))
  have hb0 : Below w.heap.size w W0 := by rw [hW0]; exact below_alloc1 _
  have hC0 := HC.out.below hb0
  obtain ⟨k0, u, k1, hu⟩ := hC0
  have kx : Blk W0 w.heap.size #[.int .i64 yb, .int .i64 yd] 84 := by rw [hW0]; exact Blk.new _ _ _ _ rfl
  obtain ⟨x0, -⟩ := k0.o1
  obtain ⟨x1, -⟩ := k1.o1
  obtain ⟨x2, x3, -, -⟩ := kx.o2
  have l0 := k0.lt
  have l1 := k1.lt
  have l2 := kx.lt
  have HB0 := Lib.hid hb0
  have HU := Lib.hid hu
  have e0 := hW0.symm
  clear hb0 hu k0 k1 kx hW0
  go_wp2_with fail
  clear e0
  refine (wwithin_is (HG.out.old HB0.out) HN.out HU.out hy HB.out).mono ?_
  rintro e w2 ⟨rfl, hb2⟩
  have HB2 := Lib.hid (bOn6 HB0.out hb2)
  clear hb2
  go_wp2_with fail
  go_ret
  exact ⟨rfl, HB2.out⟩
/-- The loop's head. -/
def IdxRel (w : World) (I : Nat → Bool) (R : List It) (iv : Value) (wr : World) : Prop :=
  ∃ k : Nat, k ≤ R.length ∧ iv = .int .i64 k ∧ (∀ y, y ∈ R.take k → I y.1 = true) ∧ Below w.heap.size w wr

set_option maxHeartbeats 4000000 in
set_option maxRecDepth 100000 in
theorem windex_is (h : GraphAt P w p n va vt) (hn : GrN n) (hc : Caught w p l gb ib) {base : Nat} {v : Value} {R : List It} (hr : StepsO w base v R) (hR : ∀ y, y ∈ R → y.1 < n.a.length) :
    Calls Tryz.prog 68 #[v, .func (.func 42) #[] #[.pointer (some ⟨gb, 0, none⟩), .pointer (some ⟨ib, 0, none⟩)]] w (IdxPost w (insB n l) R) := by
  obtain ⟨q, c, rfl⟩ := hr.shape
  have HG := Lib.hid h
  have HN := Lib.hid hn
  have HC := Lib.hid hc
  have HR := Lib.hid hr
  have HRN := Lib.hid hR
  have hlen : R.length ≤ 9223372036854775807 := by
    rcases hr.2 with ⟨e, e0⟩ | ⟨g9, cap9, cur9, e, _, _, h9, h8, _⟩
    · omega
    · unfold maxLen at h8; omega
  clear h hn hc hr hR
  go_enter Tryz.func68, Tryz.ntmps68
  go_wp2_with fail
  go_loopw [5, 8] (fun _ iv wr => IdxRel w (insB n l) R iv wr) (fun _ iv _ => R.length - (intOf iv).toNat)
  case atStart => exact ⟨0, Nat.zero_le _, rfl, fun y hy => (by simp at hy), Below.refl _ _⟩
  case round =>
    obtain ⟨k, hk, rfl, hall, hb⟩ := hrel
    have HA := Lib.hid hall
    have HB := Lib.hid hb
    have hRr := HR.out.below hb
    clear hall hb
    by_cases hlt : k < R.length
    · obtain ⟨y, hy⟩ : ∃ y, R[k] = y := ⟨_, rfl⟩
      obtain ⟨g, rfl, -, hglt, z0, z1⟩ := hRr.at hlt
      rw [hy] at z0 z1
      have hyN := HRN.out y (by rw [← hy]; exact List.getElem_mem hlt)
      have HY := Lib.hid hy
      have hli : (k : Int) < (R.length : Int) := by omega
      clear hy hRr
      cases hI : insB n l y.1 with
      | true =>
        have HI := Lib.hid hI
        have HA2 : Hid (∀ x, x ∈ R.take (k + 1) → insB n l x.1 = true) := Lib.hid (fun x hx => by
          rw [List.take_succ_eq_append_getElem hlt] at hx
          rcases List.mem_append.1 hx with hx | hx
          · exact HA.out x hx
          · rw [List.mem_singleton.1 hx, HY.out]; exact HI.out)
        clear hI
        go_wp2_with fail
        clear z0 z1
        refine (wout_is (HG.out.old HB.out) HN.out (HC.out.below HB.out) hyN HI.out).mono ?_
        rintro e w2 ⟨rfl, hb2⟩
        have HB2 := Lib.hid (bOn6 HB.out hb2)
        clear hb2
        go_wp2_with fail
        go_roundw
        case rel => exact ⟨k + 1, hlt, by go_num, HA2.out, HB2.out⟩
        case measure => simp [intOf]; omega
      | false =>
        have HI := Lib.hid hI
        have HP : Hid (IdxQ (insB n l) R (k : Int)) := Lib.hid (Or.inr ⟨k, hlt, rfl, by rw [HY.out]; exact HI.out, HA.out⟩)
        clear hI
        go_wp2_with fail
        clear z0 z1
        refine (wout_is (HG.out.old HB.out) HN.out (HC.out.below HB.out) hyN HI.out).mono ?_
        rintro e w2 ⟨rfl, hb2⟩
        have HB2 := Lib.hid (bOn6 HB.out hb2)
        clear hb2
        go_wp2_with fail
        go_ret
        exact ⟨_, rfl, HP.out, HB2.out⟩
    · have hkl : R.length ≤ k := by omega
      have HP : Hid (IdxQ (insB n l) R (-1)) := Lib.hid (Or.inl ⟨rfl, fun y hy => HA.out y (by rw [List.take_of_length_le hkl]; exact hy)⟩)
      have hnl : decide (k < R.length) = false := by simpa using hlt
      clear hkl hRr
      go_wp2_with fail
      go_ret
      exact ⟨_, rfl, HP.out, HB.out⟩
end

theorem zeroStep (w : World) : (zeroValue 84).run Tryz.prog w = .ok (.agg #[.int .i64 0, .int .i64 0]) w := by kernel_rfl
/-- A row of steps that is cleared from its i-th on and cut there. -/
theorem StepsO.cut {w : World} {base g c N i : Nat} {Q : List It} (h : StepsO w base (.slice (some ⟨g, 0, none⟩) N c) Q) (hN : Q.length = N) (hi : i < N) {B : Nat} {w0 : World} (hb : Below B w0 w) (hg : B ≤ g) :
    ∃ w', (∀ ty, (Builtin.clear_ #[81] ty #[.slice (some ⟨g, i * 2, none⟩) (N - i) (c - i)]).run Tryz.prog w = .ok (.tuple #[]) w') ∧ StepsO w' base (.slice (some ⟨g, 0, none⟩) i c) (Q.take i) ∧ Below B w0 w' := by
  subst hN
  rcases h.2 with ⟨e, _⟩ | ⟨g2, cap, cur, e, hbg, hh, hnc, hcm, hsz, htk⟩
  · cases e
  injection e with e1 e2 e3
  injection e1 with e1
  injection e1 with e1
  subst e1
  subst e3
  have hblk : Blk w g cur 84 := hh
  obtain ⟨vs, hrun⟩ := run_clear2 (P := Tryz.prog) w 81 84 Tryz.underlying81 zeroStep g (i * 2) (Q.length - i) (c - i) (by omega)
    (fun j hj => by
      have hlt : i * 2 + j < cur.size := by omega
      rw [hblk.cell (i * 2 + j) (Array.getElem?_eq_getElem hlt)]
      rfl) (fun j hj => hblk.free _)
  obtain ⟨cur', k1, k2, k3⟩ := setCells_blk (m := i * 2) vs (i * 2) w cur (Nat.le_refl _) hblk
  refine ⟨_, hrun, ⟨?_, Or.inr ⟨g, c, cur', ?_, hbg, k1, ?_, hcm, by rw [k2]; exact hsz, ?_⟩⟩, setCells_below hg vs _ _ hb⟩
  · rw [flatI_len]
  · rw [List.length_take, Nat.min_eq_left (by omega)]
  · rw [List.length_take]; omega
  · rw [List.length_take, Nat.min_eq_left (by omega), k3, ← flatI_take, ← htk, List.take_take, Nat.min_eq_left (by omega)]

end Go.Proofs.YtgihaakgadmidaaGreat

/-
  The program's walks: rows of steps cut down to those within; going through.
-/
namespace Go.Proofs.YtgihaakgadmidaaGreat
open HP Go.RowKit

/-- A row that is being cut down: its first i are those kept of the first j, from j on it is as it was. -/
structure CutR (I : Nat → Bool) (R Q : List It) (i j : Nat) : Prop where
  len : Q.length = R.length
  ij : i ≤ j
  jl : j ≤ R.length
  kept : Q.take i = (R.take j).filter fun y => I y.1
  rest : Q.drop j = R.drop j
section
variable {I : Nat → Bool} {R Q : List It} {i j k : Nat}
theorem CutR.start (hk : k < R.length) (hI : I (R[k]).1 = false) (ha : ∀ y, y ∈ R.take k → I y.1 = true) : CutR I R R k (k + 1) := by
  refine ⟨rfl, by omega, hk, ?_, rfl⟩
  rw [List.take_succ_eq_append_getElem hk, List.filter_append, List.filter_eq_self.2 ha]
  simp [hI]
theorem CutR.at (h : CutR I R Q i j) (hj : j < R.length) : Q[j]'(by rw [h.len]; exact hj) = R[j] := by
  have h1 : (Q.drop j)[0]? = (R.drop j)[0]? := by rw [h.rest]
  simp only [List.getElem?_drop, Nat.add_zero] at h1
  rw [List.getElem?_eq_getElem (by rw [h.len]; exact hj), List.getElem?_eq_getElem hj] at h1
  injection h1
theorem CutR.skip (h : CutR I R Q i j) (hj : j < R.length) (hI : I (R[j]).1 = false) : CutR I R Q i (j + 1) := by
  refine ⟨h.len, by have := h.ij; omega, hj, ?_, ?_⟩
  · rw [h.kept, List.take_succ_eq_append_getElem hj, List.filter_append]
    simp [hI]
  · rw [← List.drop_drop, ← List.drop_drop, h.rest]
theorem CutR.take (h : CutR I R Q i j) (hj : j < R.length) (hij : i < j) (hI : I (R[j]).1 = true) : CutR I R (Q.set i R[j]) (i + 1) (j + 1) := by
  have hl := h.len
  refine ⟨by rw [List.length_set]; exact hl, by omega, hj, ?_, ?_⟩
  · rw [List.take_succ_eq_append_getElem (by rw [List.length_set]; omega), List.take_set_of_le (Nat.le_refl _), h.kept, List.take_succ_eq_append_getElem hj, List.filter_append]
    simp [hI]
  · rw [List.drop_set_of_lt (by omega), ← List.drop_drop, ← List.drop_drop, h.rest]
end
/-- A struct of the row is written. -/
theorem StepsO.put {w : World} {base g c n : Nat} {Q : List It} (h : StepsO w base (.slice (some ⟨g, 0, none⟩) n c) Q) (hn : Q.length = n) {i : Nat} (hi : i < n) (y : It) :
    (∃ v, w.cell? ⟨g, i * 2, none⟩ = some v) ∧ (∃ v, w.cell? ⟨g, i * 2 + 1, none⟩ = some v) ∧ w.frozen? ⟨g, i * 2, none⟩ = false ∧ w.frozen? ⟨g, i * 2 + 1, none⟩ = false ∧ g < w.heap.size ∧ base ≤ g ∧
    StepsO ((w.setCell ⟨g, i * 2, none⟩ (.int .i64 y.1)).setCell ⟨g, i * 2 + 1, none⟩ (.int .i64 y.2)) base (.slice (some ⟨g, 0, none⟩) n c) (Q.set i y) := by
  subst hn
  obtain ⟨g', e, hb, hlt, z0, z1⟩ := h.at hi
  injection e with e
  injection e with e
  subst e
  have hfr : ∀ o, w.frozen? ⟨g, o, none⟩ = false := fun o => by
    rcases h.2 with ⟨e, _⟩ | ⟨g2, cap, cur, e, _, hh, _⟩
    · cases e
    · injection e with e1
      injection e1 with e1
      injection e1 with e1
      subst e1
      exact frozen_of_row w g _ _ _ hh
  refine ⟨⟨_, z0⟩, ⟨_, z1⟩, hfr _, hfr _, hlt, hb, ?_⟩
  unfold StepsO
  rw [List.length_set, flatI_set Q i y hi]
  exact own_put (own_put h _ _) _ _
/-- The loop's head. -/
def CutRel (w0 : World) (base g c N : Nat) (I : Nat → Bool) (R : List It) (iv jv : Value) (wr : World) : Prop :=
  ∃ (i j : Nat) (Q : List It), iv = .int .i64 i ∧ jv = .int .i64 j ∧ i < j ∧ CutR I R Q i j ∧ StepsO wr base (.slice (some ⟨g, 0, none⟩) N c) Q ∧ Below w0.heap.size w0 wr
section
variable {P : Nat → Prop} {w w0 : World} {p : Nat} {n : NetD} {va vt : Value} {l : List Bool} {gb ib : Nat}

set_option maxHeartbeats 8000000 in
set_option maxRecDepth 100000 in
theorem wdelete_is (h : GraphAt P w0 p n va vt) (hn : GrN n) (hc : Caught w0 p l gb ib) (hb0 : Below w0.heap.size w0 w) {v : Value} {R : List It} (hr : StepsO w w0.heap.size v R) (hR : ∀ y, y ∈ R → y.1 < n.a.length) :
    Calls Tryz.prog 41 #[v, .func (.func 42) #[] #[.pointer (some ⟨gb, 0, none⟩), .pointer (some ⟨ib, 0, none⟩)]] w
      (fun e w' => ∃ v, e = .returned v ∧ StepsO w' w0.heap.size v (R.filter fun y => insB n l y.1) ∧ Below w0.heap.size w0 w') := by
  obtain ⟨q, c, rfl⟩ := hr.shape
  have HIDX := Lib.hid (windex_is (h.old hb0) hn (hc.below hb0) hr hR)
  have HG := Lib.hid h
  have HN := Lib.hid hn
  have HC := Lib.hid hc
  have HB0 := Lib.hid hb0
  have HR := Lib.hid hr
  have HRN := Lib.hid hR
  have hlen : R.length ≤ 9223372036854775807 := by
    rcases hr.2 with ⟨e, e0⟩ | ⟨g9, cap9, cur9, e, _, _, h9, h8, _⟩
    · omega
    · unfold maxLen at h8; omega
  clear h hn hc hr hR hb0
  go_enter Tryz.func41, Tryz.ntmps41
  go_wp2_with fail
  refine HIDX.out.mono ?_
  rintro e w1 ⟨i, rfl, hq, hb1⟩
  have HB1 := Lib.hid (HB0.out.trans (hb1.mono HB0.out.size))
  have HR1 := Lib.hid (HR.out.below hb1)
  clear hb1 HIDX HR HB0
  rcases hq with ⟨rfl, hall⟩ | ⟨k, hk, rfl, hI, hall⟩
  · have HE : Hid (R.filter (fun y => insB n l y.1) = R) := Lib.hid (List.filter_eq_self.2 hall)
    clear hall
    go_wp2_with fail
    refine bodyPost_ret (v := .slice q R.length c) (by simp [results, Tryz.results41, go_sem]) rfl ⟨_, rfl, by rw [HE.out]; exact HR1.out, HB1.out⟩
  · have HCUT := Lib.hid (CutR.start hk hI hall)
    have hpos : 0 < R.length := by omega
    have hki : (k : Int) < (R.length : Int) := by omega
    obtain ⟨g, rfl, hgb, -, -, -⟩ := HR1.out.at hk
    have hRc : R.length ≤ c ∧ c ≤ 9223372036854775807 := by
      rcases HR1.out.2 with ⟨e, e0⟩ | ⟨g9, cap9, cur9, e, _, _, h9, h8, _⟩
      · cases e
      · injection e with _ _ e3
        subst e3
        unfold maxLen at h8
        exact ⟨h9, by omega⟩
    obtain ⟨hlc, hcm⟩ := hRc
    have hkm : ((k : Int) == -1) = false := by simp
    clear hI hall
    go_wp2_with fail
    go_loopw [5, 6, 7] (fun iv jv _ wr => CutRel w0 w0.heap.size g c R.length (insB n l) R iv jv wr) (fun _ jv _ _ => R.length - (intOf jv).toNat)
    case atStart => exact ⟨k, k + 1, R, rfl, by go_num, by omega, HCUT.out, HR1.out, HB1.out⟩
    case round =>
      obtain ⟨i, j, Q, rfl, rfl, hij, hcut, hs, hb⟩ := hrel
      obtain ⟨wo, rfl⟩ : ∃ wo : World, wo = wr := ⟨_, rfl⟩
      have HCU := Lib.hid hcut
      have HS := Lib.hid hs
      have HB := Lib.hid hb
      have hjl := hcut.jl
      have hql := hcut.len
      clear hcut hs hb HCUT HR1 HB1
      by_cases hlt : j < R.length
      · obtain ⟨y, hy⟩ : ∃ y, R[j] = y := ⟨_, rfl⟩
        have hjq : j < Q.length := by omega
        have hsq := HS.out
        rw [← hql] at hsq
        obtain ⟨g', e, -, hglt, z0, z1⟩ := hsq.at hjq
        injection e with e
        injection e with e
        subst e
        rw [HCU.out.at hlt, hy] at z0 z1
        have hyN := HRN.out y (by rw [← hy]; exact List.getElem_mem hlt)
        have HY := Lib.hid hy
        have hji : (j : Int) < (R.length : Int) := by omega
        obtain ⟨xb, hxb⟩ : ∃ xb, wo.heap.size = xb := ⟨_, rfl⟩
        obtain ⟨W4, hW4⟩ := named (wo.alloc (.cells #[.int .i64 y.1, .int .i64 y.2] 84))
        have hb4 : Below wo.heap.size wo W4 := by rw [hW4]; exact below_alloc1 _
        have k4 : Blk W4 xb #[.int .i64 y.1, .int .i64 y.2] 84 := by rw [hW4]; exact Blk.new _ _ _ _ hxb
        have HS4 := Lib.hid (HS.out.below hb4)
        have HB4 := Lib.hid (bOn6 HB.out hb4)
        have HK4 := Lib.hid k4
        have hxz : wo.heap.size ≤ xb := by omega
        have hxg : xb ≠ g := by omega
        obtain ⟨x0, x1, -, -⟩ := k4.o2
        have hxl := k4.lt
        have e4 := hW4.symm
        have HW4 := Lib.hid hW4
        have HXB := Lib.hid hxb
        clear hy hb4 k4 hW4 hsq hjq
        cases hI : insB n l y.1 with
        | false =>
          have HI := Lib.hid hI
          have HC2 : Hid (CutR (insB n l) R Q i (j + 1)) := Lib.hid (HCU.out.skip hlt (by rw [HY.out]; exact HI.out))
          clear hI
          go_wp2_with fail
          clear z0 z1 e4 x0 x1 hxb
          refine (wout_is (HG.out.old HB4.out) HN.out (HC.out.below HB4.out) hyN HI.out).mono ?_
          rintro e w5 ⟨rfl, hb5⟩
          have HB5 := Lib.hid (bOn6 HB4.out hb5)
          have HS5 := Lib.hid (HS4.out.below hb5)
          clear hb5
          go_wp2_with fail
          go_roundw
          case rel => exact ⟨i, j + 1, Q, rfl, by go_num, by omega, HC2.out, HS5.out, HB5.out⟩
          case measure => simp [intOf]; omega
        | true =>
          have HI := Lib.hid hI
          have HC2 : Hid (CutR (insB n l) R (Q.set i y) (i + 1) (j + 1)) := Lib.hid (by
            have := HCU.out.take hlt hij (by rw [HY.out]; exact HI.out)
            rw [HY.out] at this
            exact this)
          have hil : (i : Int) < (R.length : Int) := by omega
          clear hI
          go_wp2_with fail
          clear z0 z1 e4 x0 x1 hxb
          refine (wout_is (HG.out.old HB4.out) HN.out (HC.out.below HB4.out) hyN HI.out).mono ?_
          rintro e w5 ⟨rfl, hb5⟩
          have HB5 := Lib.hid (bOn6 HB4.out hb5)
          have HS5 := HS4.out.below hb5
          have k5 := HK4.out.keep hb5
          obtain ⟨⟨v0, c0⟩, ⟨v1, c1⟩, f0, f1, hgl, -, hput⟩ := HS5.put hql (show i < R.length from by omega) y
          have HR : Hid (CutRel w0 w0.heap.size g c R.length (insB n l) R (.int .i64 ((i + 1 : Nat) : Int)) (.int .i64 ((j + 1 : Nat) : Int)) ((w5.setCell ⟨g, i * 2, none⟩ (.int .i64 y.1)).setCell ⟨g, i * 2 + 1, none⟩ (.int .i64 y.2))) :=
            Lib.hid ⟨i + 1, j + 1, Q.set i y, rfl, rfl, by omega, HC2.out, hput, (HB5.out.setCell hgb _).setCell hgb _⟩
          obtain ⟨x0, x1, -, -⟩ := k5.o2
          have hxl5 := k5.lt
          clear hb5 hput k5 HS5
          go_wp2_with fail
          go_roundw
          case rel => exact HR.out
          case measure => simp [intOf]; omega
      · have hjn : j = R.length := by omega
        have hiR : i < R.length := by omega
        obtain ⟨w9, hclr, hs9, hb9⟩ := HS.out.cut hql hiR HB.out hgb
        have HE : Hid (Q.take i = R.filter (fun y => insB n l y.1)) := Lib.hid (by
          have := HCU.out.kept
          rw [hjn, List.take_length] at this
          exact this)
        have HS9 := Lib.hid hs9
        have HB9 := Lib.hid hb9
        have hil : (i : Int) ≤ (R.length : Int) := by omega
        have hic : i ≤ c := by omega
        have hci : ¬ c = i := by omega
        have hlc2 := hlc
        have hnl : decide (j < R.length) = false := by simpa using hlt
        clear hjn hs9 hb9
        go_wp2_with fail
        exact bodyPost_ret (v := .slice (some ⟨g, 0, none⟩) i c) (by simp [results, Tryz.results41, go_sem]) rfl ⟨_, rfl, by rw [← HE.out]; exact HS9.out, HB9.out⟩
end

end Go.Proofs.YtgihaakgadmidaaGreat

/-
  The program's walks: going through from one arc to another one by arcs within.
-/
namespace Go.Proofs.YtgihaakgadmidaaGreat
open HP Go.RowKit

section
variable {P : Nat → Prop} {w : World} {p : Nat} {n : NetD} {va vt : Value} {l : List Bool}

set_option maxHeartbeats 4000000 in
set_option maxRecDepth 100000 in
theorem wnext_is (h : GraphAt P w p n va vt) (hn : GrN n) {ib : Nat} {u : Value} (hi : Blk w ib #[u] 38) (hu : Bools w u l) {a : Nat} (ha : a < n.a.length) :
    Calls Tryz.prog 40 #[gp p, .int .i64 a, .pointer (some ⟨ib, 0, none⟩)] w (StepsPost w (inwL n (insB n l) a)) := by
  have HG := Lib.hid h
  have HN := Lib.hid hn
  have HI := Lib.hid hi
  have HU := Lib.hid hu
  clear h hn hi hu
  go_enter Tryz.func40, Tryz.ntmps40
  obtain ⟨W0, hW0⟩ := named (w.alloc (.cells #[gp p] 29))
  have hb0 : Below w.heap.size w W0 := by rw [hW0]; exact below_alloc1 _
  have k0 : Blk W0 w.heap.size #[gp p] 29 := by rw [hW0]; exact Blk.new _ _ _ _ rfl
  have HB0 := Lib.hid hb0
  have HC0 : Hid (Caught W0 p l w.heap.size ib) := Lib.hid ⟨k0, u, HI.out.keep hb0, HU.out.below hb0⟩
  have HG0 := Lib.hid (HG.out.old hb0)
  obtain ⟨x0, -⟩ := k0.o1
  have l0 := k0.lt
  have e0 := hW0.symm
  clear hb0 k0 hW0 HG HI HU
  go_wp2_with fail
  clear e0 x0
  refine (wonward_is HG0.out HN.out ha).mono ?_
  rintro e w1 ⟨v, rfl, hs, hb1⟩
  have HS := Lib.hid hs
  have HB1 := Lib.hid hb1
  clear hs hb1
  go_wp2_with fail
  refine (wdelete_is HG0.out HN.out HC0.out HB1.out HS.out (fun y hy => (onw_mem.1 hy).1)).mono ?_
  rintro e w2 ⟨v2, rfl, hs2, hb2⟩
  have HP : Hid (StepsPost w (inwL n (insB n l) a) (.returned v2) w2) := Lib.hid ⟨v2, rfl, hs2.base HB0.out.size, HB0.out.trans (hb2.mono HB0.out.size)⟩
  clear hs2 hb2
  go_wp2_with fail
  go_ret
  exact HP.out
/-- The loop's head: the least so far. -/
def InsRel (w0 : World) (n : NetD) (C : List Int) (j : Nat) (L : List Int) (lv iv : Value) (wr : World) : Prop :=
  ∃ k : Nat, k ≤ L.length ∧ iv = .int .i64 k ∧ lv = .int .i64 (minT n C j (L.take k)) ∧ Below w0.heap.size w0 wr
def InsPost (w : World) (n : NetD) (l : List Bool) (k j : Nat) (e : Ending) (w' : World) : Prop :=
  ∃ x, e = .returned (.int .i64 x) ∧ LeastOf (Ins (fun a b => n.turn a b) (wN n) (insB n l) n.a.length k j) x ∧ Below w.heap.size w w'
theorem minT_bd (C : List Int) (j : Nat) (L : List Int) : 0 ≤ minT n C j L ∧ minT n C j L ≤ 1152921504606846976 := by
  obtain ⟨m1, -, m3⟩ := minT_spec n C j L
  refine ⟨?_, m1⟩
  by_cases hl : minT n C j L < 1152921504606846976
  · obtain ⟨a, -, e⟩ := m3 hl
    rw [e]
    exact addC_lo _ _
  · omega

set_option maxHeartbeats 8000000 in
set_option maxRecDepth 100000 in
theorem winside_is (h : GraphAt P w p n va vt) (hn : GrN n) {u : Value} (hu : Bools w u l) {k j : Nat} (hk : k < n.a.length) (hj : j < n.a.length) :
    Calls Tryz.prog 22 #[gp p, .int .i64 k, .int .i64 j, u] w (InsPost w n l k j) := by
  obtain ⟨uq, uc, rfl⟩ := hu.shape
  have hsh := hn.few.a
  have HG := Lib.hid h
  have HN := Lib.hid hn
  have HU := Lib.hid hu
  obtain ⟨N, hN⟩ : ∃ N, n.a.length = N := ⟨_, rfl⟩
  have HNN := Lib.hid hN
  rw [hN] at hsh
  have hkN : k < N := by omega
  have hjN : j < N := by omega
  clear h hn hu hN
  go_enter Tryz.func22, Tryz.ntmps22
  obtain ⟨W0, hW0⟩ := named (w.alloc (.cells #[.slice uq l.length uc] 38))
  have hb0 : Below w.heap.size w W0 := by rw [hW0]; exact below_alloc1 _
  have k0 : Blk W0 w.heap.size #[.slice uq l.length uc] 38 := by rw [hW0]; exact Blk.new _ _ _ _ rfl
  have HB0 := Lib.hid hb0
  have K0 := Lib.hid k0
  have HU0 := Lib.hid (HU.out.below hb0)
  have HG0 := Lib.hid (HG.out.old hb0)
  have e0 := hW0.symm
  clear hb0 k0 hW0
  go_wp2_with fail
  clear e0
  refine (grow_inside HG0.out HN.out HNN.out (L := inwL n (insB n l)) (by rw [← HNN.out]; exact inw_ok n _) (fun w9 a ha hb => wnext_is (HG0.out.old hb) HN.out (K0.out.keep hb) (HU0.out.below hb) (by rw [HNN.out]; exact ha)) k hkN).mono ?_
  rintro e w2 ⟨cb, bb, C, B, rfl, kc, -, -, -, hcl, -, hq, hb2⟩
  have HKC := Lib.hid kc
  have HCN := Lib.hid hcl
  have HQ := Lib.hid hq
  have HB2 := Lib.hid (HB0.out.trans (hb2.mono HB0.out.size))
  have hf := agg_field0 (.slice (some ⟨cb, 0, none⟩) N N) (.slice (some ⟨bb, 0, none⟩) N N) w2
  clear kc hcl hq hb2 HB0 K0 HU0 HG0
  go_wp2_with fail
  clear hf
  obtain ⟨X, hX⟩ : ∃ X, n.a[j].1 = X := ⟨_, rfl⟩
  have hXa : (n.arc j).1 = X := by rw [NetGood.arc_at j hj]; exact hX
  have HXX := Lib.hid hX
  have HXA := Lib.hid hXa
  clear hX hXa
  refine (vFrom (HG.out.old HB2.out) hj HXX.out).mono ?_
  rintro e w3 ⟨rfl, hb3⟩
  have HB3 := Lib.hid (bOn6 HB2.out hb3)
  have HK3 := Lib.hid (HKC.out.keep hb3)
  clear hb3
  go_wp2_with fail
  refine (vInsG (HG.out.old HB3.out) HN.out X rfl).mono ?_
  rintro e w4 ⟨v, rfl, hv, hb4⟩
  have HB4 := Lib.hid (bOn6 HB3.out hb4)
  have HK4 := Lib.hid (HK3.out.keep hb4)
  obtain ⟨q, c, rfl⟩ := hv.shape
  have HV := Lib.hid hv
  have hshL := ins_short HN.out X
  have hpos : 0 ≤ (insL n.a X).length := Nat.zero_le _
  clear hv hb4 HB3 HK3 HB2 HKC
  go_wp2_with fail
  go_loopw [10, 12, 24] (fun lv _ iv wr => InsRel w4 n C j (insL n.a X) lv iv wr) (fun _ _ iv _ => (insL n.a X).length - (intOf iv).toNat)
  case atStart => exact ⟨0, Nat.zero_le _, rfl, rfl, Below.refl _ _⟩
  case round =>
    obtain ⟨i, hi, rfl, rfl, hb⟩ := hrel
    have HB := Lib.hid hb
    have HBW := Lib.hid (HB4.out.trans (hb.mono HB4.out.size))
    clear hb
    obtain ⟨M, hM⟩ : ∃ M, minT n C j ((insL n.a X).take i) = M := ⟨_, rfl⟩
    have hMb := minT_bd (n := n) C j ((insL n.a X).take i)
    rw [hM] at hMb
    rw [hM]
    have HM := Lib.hid hM
    clear hM
    by_cases hlt : i < (insL n.a X).length
    · obtain ⟨b, o, rfl, hcell⟩ := (HV.out.below HB.out).at hlt
      obtain ⟨z, hz, ez, ez2, -⟩ := ins_at hlt
      rw [ez] at hcell
      have hzN : z < N := by rw [← HNN.out]; exact hz
      have hzC : z < C.length := by rw [HCN.out]; exact hzN
      obtain ⟨cv, hcv⟩ : ∃ cv, ctL C z = cv := ⟨_, rfl⟩
      have hcvb := HQ.out.hi z hzN
      rw [hcv] at hcvb
      obtain ⟨T, hT⟩ : ∃ T, n.turn z j = T := ⟨_, rfl⟩
      have htb := turn_bd HN.out.good z j
      rw [hT] at htb
      obtain ⟨X1, hX1⟩ : ∃ X, addC cv T = X := ⟨_, rfl⟩
      have hxb := addC_held cv T
      rw [hX1] at hxb
      have HT := Lib.hid hT
      have HX := Lib.hid hX1
      have HCC : Hid (w4.cell? ⟨cb, z, none⟩ = some (.int .i64 cv)) := Lib.hid (by rw [← hcv, ctL_at hzC]; exact HK4.out.cell z (numC_at hzC))
      have HCL : Hid (cb < w4.heap.size) := Lib.hid HK4.out.lt
      have HNX : Hid (minT n C j ((insL n.a X).take (i + 1)) = min M X1) := Lib.hid (by
        rw [List.take_succ_eq_append_getElem hlt, minT_snoc, HM.out, ez, Int.toNat_natCast, hcv, hT, hX1])
      have hli : (i : Int) < ((insL n.a X).length : Int) := by omega
      have hzi : (z : Int) < (N : Int) := by omega
      have hblt := World.block_lt_of_cell? wr _ hcell
      clear ez ez2 hcv hT hX1 hzC
      go_wp2_with fail
      clear hcell
      have hGS : Grows (fun w' => Below wr.heap.size wr w') := Grows.below wr
      refine' wp_thenL _ 11 (fun w' => Below wr.heap.size wr w') [[], [], [], [1, 2], [1, 2, 3], [], [], [], [5, 6, 7], [1, 2, 3, 4, 5, 6, 7, 8], [0, 1, 2, 3, 4, 5, 6, 7, 8, 9]] (Fact.lit _ :: Fact.lit _ :: Fact.lit _ :: Fact.lit _ :: Fact.lit _ :: Fact.lit _ :: Fact.lit _ :: Fact.lit _ :: Fact.lit _ :: Fact.lit _ :: Fact.lit _ :: []) (by kernel_rfl) rfl (by kernel_rfl) (Below.refl _ _).drew ?seqins
      case' seqins => skip
      iterate 8 ((first | (apply grow_skip; (case hf => rfl); (case hw => rfl)) | (apply grow_lit; (case hf => rfl); (case hw => rfl); (case hrun => (intro w' hS H; clear H; (have y0 := carry (HB.out.trans (hS.mono HB.out.size)) HCC.out HCL.out); (have hl0 := World.block_lt_of_cell? w' _ y0); clear hS; go_simp; first | done | exact rfl)))); (case hc => (simp only [Act.put, List.setIfInBounds_toArray, List.set_cons_zero, List.set_cons_succ]; first | done | exact rfl)); (try (case hj => rfl)))
      (refine' grow_call (u := .int .i64 T) rfl Tryz.func46 (by kernel_rfl) rfl hGS rfl ?wt42 ?run42 ?put42 ?next42; (case wt42 => rfl); (case run42 => (intro w' hS H; exact (vTurnG ((HG.out.old HBW.out).old hS) HN.out HT.out).mono (fun e w2 h => ⟨h.1, h.2⟩))); (case put42 => (simp only [Act.put, List.setIfInBounds_toArray, List.set_cons_zero, List.set_cons_succ]; first | done | exact rfl)); (case' next42 => skip))
      (refine' grow_call (u := .int .i64 X1) rfl Tryz.func37 (by kernel_rfl) rfl hGS rfl ?wt43 ?run43 ?put43 ?next43; (case wt43 => rfl); (case run43 => (intro w' hS H; exact (add_any cv T w' (by omega) (by omega) (by omega) (by omega)).mono (fun e w2 h => ⟨h.1.trans (by rw [HX.out]), h.2 ▸ Below.refl _ _⟩))); (case put43 => (simp only [Act.put, List.setIfInBounds_toArray, List.set_cons_zero, List.set_cons_succ]; first | done | exact rfl)); (case' next43 => skip))
      iterate 1 ((first | (apply grow_skip; (case hf => rfl); (case hw => rfl)) | (apply grow_lit; (case hf => rfl); (case hw => rfl); (case hrun => (intro w' hS H; clear H; (have y0 := carry (HB.out.trans (hS.mono HB.out.size)) HCC.out HCL.out); (have hl0 := World.block_lt_of_cell? w' _ y0); clear hS; go_simp; first | done | exact rfl)))); (case hc => (simp only [Act.put, List.setIfInBounds_toArray, List.set_cons_zero, List.set_cons_succ]; first | done | exact rfl)); (try (case hj => rfl)))
      intro w5 hb5 _
      have HB5 := Lib.hid (bOn6 HB.out hb5)
      clear hb5 hGS
      refine wpAny_ready (rs := [11]) (by kernel_rfl) (by simp) (AllReady.cons rfl (fun K hK => ?_) AllReady.nil)
      go_simp
      refine hK _ _ ?_
      clear hK K
      refine wpAny_done (by kernel_rfl) ?_ _
      go_wp2_with fail
      go_roundw
      case rel => exact ⟨i + 1, hlt, by go_num, by rw [HNX.out], HB5.out⟩
      case measure => simp [intOf]; omega

    · have hin : i = (insL n.a X).length := by omega
      have HP : Hid (InsPost w n l k j (.returned (.int .i64 M)) wr) := Lib.hid ⟨M, rfl, by
        have := HQ.out
        rw [← HNN.out] at this
        have h2 := this.inside hk (j := j)
        rw [HXA.out] at h2
        have h3 := HM.out
        rw [hin, List.take_length] at h3
        rw [h3] at h2
        exact h2, HBW.out⟩
      have hnl : decide (i < (insL n.a X).length) = false := by simpa using hlt
      clear hin
      go_wp2_with fail
      go_ret
      exact HP.out
end

end Go.Proofs.YtgihaakgadmidaaGreat

/-
  The ring's own least walks: plain mathematics, no program stands here.
-/
namespace Go.Proofs.YtgihaakgadmidaaGreat
open HP

abbrev inf8 : Int := 1152921504606846976
theorem all2 {P : Nat → Nat → Prop} {N : Nat} (h : ∀ a, a < N → ∀ b, b < N → P a b) : ∀ a b, a < N → b < N → P a b := fun a b ha hb => h a ha b hb
theorem ring8_from0 : FromP ringN 0 [0, 21, 53, 45] := by
  refine ⟨rfl, Or.inl ⟨0, rfl, by decide, by decide, by decide, by decide, ?_, all2 (by decide)⟩⟩
  have a1 : Att (hN ringN) 4 0 1 (addC 0 (hN ringN 0 1)) := .step .start (by decide)
  have a2 : Att (hN ringN) 4 0 2 (addC (addC 0 (hN ringN 0 1)) (hN ringN 1 2)) := .step a1 (by decide)
  have a3 : Att (hN ringN) 4 0 3 (addC 0 (hN ringN 0 3)) := .step .start (by decide)
  intro b hb _
  match b, hb with
  | 0, _ => exact .start
  | 1, _ => exact a1
  | 2, _ => exact a2
  | 3, _ => exact a3
theorem ring8_from3 : FromP ringN 3 [inf8, inf8, inf8, 0] := by
  refine ⟨rfl, Or.inl ⟨3, rfl, by decide, by decide, by decide, by decide, ?_, all2 (by decide)⟩⟩
  intro b hb hl
  match b, hb with
  | 0, _ => exact absurd hl (by decide)
  | 1, _ => exact absurd hl (by decide)
  | 2, _ => exact absurd hl (by decide)
  | 3, _ => exact .start
theorem ring8_to2 : ToP ringN 2 [53, 32, 0, inf8] := by
  refine ⟨rfl, Or.inl ⟨2, rfl, by decide, by decide, by decide, by decide, ?_, all2 (by decide)⟩⟩
  have a1 : BAtt (hN ringN) 4 2 1 (addC 0 (hN ringN 1 2)) := .step .start (by decide)
  have a0 : BAtt (hN ringN) 4 2 0 (addC (addC 0 (hN ringN 1 2)) (hN ringN 0 1)) := .step a1 (by decide)
  intro b hb hl
  match b, hb with
  | 0, _ => exact a0
  | 1, _ => exact a1
  | 2, _ => exact .start
  | 3, _ => exact absurd hl (by decide)
theorem ring8_whole : LeastOf (Ins (fun a b => ringN.turn a b) (wN ringN) (insB ringN [true, true, true]) 4 0 2) 23 := by
  refine ins_of (d := fun i => [63, 21, 53, 45].getD i inf8) (by decide) (all2 (by decide)) (by decide) (fun _ => ?_) (by decide) (by decide)
  have a1 : IAt (fun a b => ringN.turn a b) (wN ringN) (insB ringN [true, true, true]) 4 0 1 (addC (ringN.turn 0 1) (wN ringN 1)) := .start (by decide) (by decide)
  exact .more a1
theorem ring8_shut : LeastOf (Ins (fun a b => ringN.turn a b) (wN ringN) (insB ringN [true, true]) 4 0 2) inf8 := by
  refine ins_of (d := fun i => [inf8, inf8, inf8, 45].getD i inf8) (by decide) (all2 (by decide)) (by decide) (fun h => absurd h (by decide)) (by decide) (by decide)
theorem ring8_cost : ringN.cost [0, 3] = 45 := by decide
/-- There is but one least walk from 0 to 2. -/
theorem ring8_path {B : List Int} {r : List Nat} (h : PathR (onwL ringN) 0 [0, 21, 53, 45] B 2 r) : zL r.reverse = [0, 1, 2] := by
  have back : ∀ {a b : Nat} {d : Int}, (b, d) ∈ onwL ringN a → a < 4 → (b = 2 → a = 1) ∧ (b = 1 → a = 0) := by
    intro a b d hm ha
    obtain ⟨h1, h2, -⟩ := onw_mem.1 hm
    simp only [] at h1 h2
    constructor
    · rintro rfl
      match a, ha with
      | 0, _ => revert h2; decide
      | 1, _ => rfl
      | 2, _ => revert h2; decide
      | 3, _ => revert h2; decide
    · rintro rfl
      match a, ha with
      | 0, _ => rfl
      | 1, _ => revert h2; decide
      | 2, _ => revert h2; decide
      | 3, _ => revert h2; decide
  have hok : StepsOK (onwL ringN) 4 := onw_ok ringN
  cases h with
  | @step a b r d h1 hb hd hx hB =>
    have ha := (h1.lt hok (by decide)).1
    obtain rfl := (back hd ha).1 rfl
    cases h1 with
    | @step a b r d h2 hb2 hd2 hx2 hB2 =>
      have ha2 := (h2.lt hok (by decide)).1
      obtain rfl := (back hd2 ha2).2 rfl
      cases h2 with
      | start _ => rfl
      | @step a b r d h3 hb3 hd3 hx3 hB3 =>
        exfalso
        obtain ⟨q, rfl⟩ := h3.head
        have hmem : ∀ {b : Nat} {r : List Nat}, PathR (onwL ringN) 0 [0, 21, 53, 45] B b r → 0 ∈ r := by
          intro b r h
          induction h with
          | start _ => simp
          | step _ _ _ _ _ ih => simp [ih]
        exact hb3 (hmem h3)

theorem ring8_q02 {l : List Int} {c : Int} (h : PathQ ringN 0 2 l c) : l = [0, 1, 2] ∧ c = 53 := by
  obtain ⟨C, hF, h⟩ := h
  obtain rfl := hF.uniq ring8_from0
  rcases h with ⟨k, j, hk, hj, -, -, -, -, hc, B, r, -, hr, rfl⟩ | ⟨h1, -, -⟩
  · obtain rfl : k = 0 := by omega
    obtain rfl : j = 2 := by omega
    exact ⟨ring8_path hr, hc⟩
  · exact absurd (h1 2 rfl (by decide)) (by decide)
theorem ring8_q30 {l : List Int} {c : Int} (h : PathQ ringN 3 0 l c) : l = [] ∧ c = 1152921504606846976 := by
  obtain ⟨C, hF, h⟩ := h
  obtain rfl := hF.uniq ring8_from3
  rcases h with ⟨k, j, hk, hj, -, -, -, hlt, -⟩ | ⟨-, h1, h2⟩
  · obtain rfl : j = 0 := by omega
    exact absurd hlt (by decide)
  · exact ⟨h1, h2⟩

end Go.Proofs.YtgihaakgadmidaaGreat

/-
  The law's own graph of a net, its small nets; its own sample of known answers.
-/
namespace Go.Proofs.YtgihaakgadmidaaGreat
open HP Go.RowKit

/-- A net that may be, and over which all walks are soon looked at. -/
def smallN (n : NetD) : Bool := decide (n.v.length ≤ 24) && (decide (n.a.length ≤ 90) && mayN n)
theorem small_gr {n : NetD} (hs : smallN n = true) (hin : InNet n) : GrN n ∧ NetFew n ∧ chkN n = fltOK ∧ n.a.length ≤ 90 := by
  unfold smallN at hs
  simp only [Bool.and_eq_true, decide_eq_true_eq] at hs
  obtain ⟨h1, h2, h3⟩ := may_of hs.2.2
  exact ⟨⟨h3, h1, hin⟩, h1, h2, hs.2.1⟩
section
variable {w0 w : World} {n : NetD} {v : Value}

set_option maxHeartbeats 2000000 in
set_option maxRecDepth 100000 in
theorem vSmall (h : NetV w v n) (hin : InNet n) {B : Bool} (hB : smallN n = B) : Calls Tryz.prog 6 #[v] w fun e w' => e = .returned (.bool B) ∧ Below w.heap.size w w' := by
  obtain ⟨vq, aq, tq, vc, ac, tc, rfl, -⟩ := h.shape
  unfold smallN at hB
  have HB := Lib.hid hB
  have HIN := Lib.hid hin
  have HV := Lib.hid h
  have h24 : decide (n.v.length ≤ 24) = true ∨ decide (n.v.length ≤ 24) = false := by cases decide (n.v.length ≤ 24) <;> simp
  have h90 : decide (n.a.length ≤ 90) = true ∨ decide (n.a.length ≤ 90) = false := by cases decide (n.a.length ≤ 90) <;> simp
  obtain ⟨M, hM⟩ : ∃ M, mayN n = M := ⟨_, rfl⟩
  have HM := Lib.hid hM
  rw [hM] at HB
  clear hB hin h hM
  obtain ⟨W0, hW0⟩ := named (w.alloc (.cells #[.slice vq n.v.length vc, .slice aq n.a.length ac, .slice tq n.t.length tc] 26))
  have hb0 : Below w.heap.size w W0 := by rw [hW0]; exact below_alloc1 _
  have k0 : Blk W0 w.heap.size #[.slice vq n.v.length vc, .slice aq n.a.length ac, .slice tq n.t.length tc] 26 := by rw [hW0]; exact Blk.new _ _ _ _ rfl
  obtain ⟨x0, x1, x2, -, -, -⟩ := k0.o3
  have l0 := k0.lt
  have HB0 := Lib.hid hb0
  have HV0 := Lib.hid (HV.out.below hb0)
  have e0 := hW0.symm
  clear hb0 k0 hW0
  rcases h24 with h24 | h24
  · rcases h90 with h90 | h90
    · have HE : Hid (M = B) := Lib.hid (by have := HB.out; rw [h24, h90] at this; simpa using this)
      have h24' : decide ((n.v.length : Int) ≤ 24) = true := decide_eq_true (by have := of_decide_eq_true h24; omega)
      have h90' : decide ((n.a.length : Int) ≤ 90) = true := decide_eq_true (by have := of_decide_eq_true h90; omega)
      go_enter Tryz.func6, Tryz.ntmps6
      go_wp2_with fail
      clear e0 x0 x1 x2
      refine (vmay HV0.out HIN.out HM.out).mono ?_
      rintro e w2 ⟨rfl, hb2⟩
      have HB2 := Lib.hid (bOn6 HB0.out hb2)
      clear hb2
      go_wp2_with fail
      go_ret
      exact ⟨ret_bool HE.out, HB2.out⟩
    · have HE : Hid (B = false) := Lib.hid (by have := HB.out; rw [h24, h90] at this; exact this.symm)
      have h24' : decide ((n.v.length : Int) ≤ 24) = true := decide_eq_true (by have := of_decide_eq_true h24; omega)
      have h90' : decide ((n.a.length : Int) ≤ 90) = false := decide_eq_false (by have := of_decide_eq_false h90; omega)
      go_enter Tryz.func6, Tryz.ntmps6
      go_wp2_with fail
      go_ret
      exact ⟨ret_bool HE.out.symm, HB0.out⟩
  · have HE : Hid (B = false) := Lib.hid (by have := HB.out; rw [h24] at this; exact this.symm)
    have h24' : decide ((n.v.length : Int) ≤ 24) = false := decide_eq_false (by have := of_decide_eq_false h24; omega)
    go_enter Tryz.func6, Tryz.ntmps6
    go_wp2_with fail
    go_ret
    exact ⟨ret_bool HE.out.symm, HB0.out⟩

set_option maxHeartbeats 2000000 in
set_option maxRecDepth 100000 in
theorem vMade (hb0 : Below w0.heap.size w0 w) (h : NetV w v n) (hn : GrN n) (hok : chkN n = fltOK) :
    Calls Tryz.prog 7 #[v] w fun e w' => ∃ p va vt, e = .returned (gp p) ∧ Gr1 w0 w' p n va vt ∧ Below w.heap.size w w' := by
  obtain ⟨vq, aq, tq, vc, ac, tc, rfl, -⟩ := h.shape
  have HV := Lib.hid h
  have HN := Lib.hid hn
  have HO := Lib.hid hok
  have HB := Lib.hid hb0
  clear h hn hok hb0
  obtain ⟨W0, hW0⟩ := named (w.alloc (.cells #[.slice vq n.v.length vc, .slice aq n.a.length ac, .slice tq n.t.length tc] 26))
  have hb1 : Below w.heap.size w W0 := by rw [hW0]; exact below_alloc1 _
  have k0 : Blk W0 w.heap.size #[.slice vq n.v.length vc, .slice aq n.a.length ac, .slice tq n.t.length tc] 26 := by rw [hW0]; exact Blk.new _ _ _ _ rfl
  obtain ⟨x0, x1, x2, -, -, -⟩ := k0.o3
  have l0 := k0.lt
  have HB1 := Lib.hid hb1
  have HV0 := Lib.hid (HV.out.below hb1)
  have e0 := hW0.symm
  clear hb1 k0 hW0
  go_enter Tryz.func7, Tryz.ntmps7
  go_wp2_with fail
  clear e0 x0 x1 x2
  refine (vtoF HV0.out HN.out.few).mono ?_
  rintro e w2 ⟨v2, rfl, hv2, hb2⟩
  have HV2 := Lib.hid hv2
  have HB2 := Lib.hid (bOn6 HB1.out hb2)
  clear hv2 hb2
  go_wp2_with fail
  refine (vNewG (w0 := w0) (HB.out.trans (HB2.out.mono HB.out.size)) HV2.out HN.out HO.out).mono ?_
  rintro e w3 ⟨p, va, vt, rfl, hG, hb3⟩
  have HG := Lib.hid hG
  have HB3 := Lib.hid (bOn6 HB2.out hb3)
  clear hG hb3
  go_wp2_with fail
  go_ret
  exact ⟨p, va, vt, rfl, HG.out, HB3.out⟩
theorem lit_bools (w : World) (l : List Bool) (hl : l.length ≤ 1000) (n : Nat) (hn : l.length = n) : Bools (w.alloc (.cells (l.map Value.bool).toArray 4)) (.slice (some ⟨w.heap.size, 0, none⟩) n n) l := by
  subst hn
  refine Or.inr ⟨by omega, w.heap.size, 0, l.length, Nat.le_refl _, rfl, fun i hi => ?_⟩
  rw [Nat.zero_add]
  exact (Blk.new w _ _ _ rfl).cell i (by simp [hi])
theorem lit_i64 (w : World) (l : List Int) (hl : l.length ≤ 1000) (n : Nat) (hn : l.length = n) (t : TypeId) : I64s (w.alloc (.cells (l.map (Value.int .i64)).toArray t)) (.slice (some ⟨w.heap.size, 0, none⟩) n n) l := by
  subst hn
  refine Or.inr ⟨by omega, w.heap.size, 0, l.length, Nat.le_refl _, by omega, rfl, fun i hi => ?_⟩
  rw [Nat.zero_add]
  exact (Blk.new w _ _ _ rfl).cell i (by simp [hi])
theorem vsameC {l k : List Int} {u : Value} (h : I64s w v l) (h2 : I64s w u k) {B : Bool} (hB : decide (l = k) = B) : Calls Tryz.prog 11 #[v, u] w fun e w' => e = .returned (.bool B) ∧ Below w.heap.size w w' := by
  subst hB
  exact samecosts_any v u l k w h h2

set_option maxHeartbeats 8000000 in
set_option maxRecDepth 100000 in
theorem known8_any (w0 : World) : Calls Tryz.prog 5 #[] w0 fun e w' => e = .returned (.bool true) ∧ Below w0.heap.size w0 w' := by
  go_enter Tryz.func5, Tryz.ntmps5
  go_wp2_with fail
  refine (ring6_any w0).mono ?_
  rintro e w1 ⟨v1, rfl, hv1, hb1⟩
  have V1 := Lib.hid hv1
  have B1 := Lib.hid hb1
  clear hv1 hb1
  go_wp2_with fail
  refine (vMade B1.out V1.out ringN_gr ringN_ok).mono ?_
  rintro e w2 ⟨p, va, vt, rfl, hG, hb⟩
  have G := Lib.hid hG
  clear hG hb V1 B1
  go_wp2_with fail
  refine (wFrom_is G.out.g G.out.n 0 (by omega) (by omega)).mono ?_
  rintro e w3 ⟨dv, C, rfl, hd, hF, hb⟩
  obtain rfl := hF.uniq ring8_from0
  have D3 := Lib.hid hd
  have G3 := Lib.hid (G.out.old hb)
  clear hd hF hb G
  go_wp2_with fail
  refine (wpath_is G3.out.g G3.out.n 0 2 (by omega) (by omega) (by omega) (by omega)).mono ?_
  rintro e w4 ⟨lv, l, c, rfl, hl, hQ, hb⟩
  obtain ⟨rfl, rfl⟩ := ring8_q02 hQ
  have D4 := Lib.hid (D3.out.below hb)
  have G4 := Lib.hid (G3.out.old hb)
  have L4 := Lib.hid hl
  clear hl hQ hb D3 G3
  go_wp2_with fail
  refine (wpath_is G4.out.g G4.out.n 3 0 (by omega) (by omega) (by omega) (by omega)).mono ?_
  rintro e w5 ⟨mv, m, c, rfl, hm, hQ, hb⟩
  obtain ⟨rfl, rfl⟩ := ring8_q30 hQ
  obtain ⟨mq, mc, rfl⟩ := hm.shape
  have D5 := Lib.hid (D4.out.below hb)
  have G5 := Lib.hid (G4.out.old hb)
  have L5 := Lib.hid (L4.out.below hb)
  clear hm hQ hb D4 G4 L4
  go_wp2_with fail
  have hbn := below_alloc1 (w := w5) (.cells #[.int .i64 0, .int .i64 21, .int .i64 53, .int .i64 45] 2)
  have G6 := Lib.hid (G5.out.old hbn)
  have L6 := Lib.hid (L5.out.below hbn)
  have D6 := Lib.hid (D5.out.below hbn)
  clear hbn G5 L5 D5
  refine (vsameC (B := true) D6.out (lit_i64 w5 [0, 21, 53, 45] (by decide) 4 rfl _) (by decide)).mono ?_
  rintro e w6 ⟨rfl, hb⟩
  have G7 := Lib.hid (G6.out.old hb)
  have L7 := Lib.hid (L6.out.below hb)
  clear hb G6 L6 D6
  go_wp2_with fail
  have hbn := below_alloc1 (w := w6) (.cells #[.int .i64 0, .int .i64 1, .int .i64 2] 3)
  have G8 := Lib.hid (G7.out.old hbn)
  have L8 := Lib.hid (L7.out.below hbn)
  clear hbn G7 L7
  refine (vsameI (B := true) L8.out (lit_i64 w6 [0, 1, 2] (by decide) 3 rfl _) (by decide)).mono ?_
  rintro e w7 ⟨rfl, hb⟩
  have G9 := Lib.hid (G8.out.old hb)
  clear hb G8 L8
  go_wp2_with fail
  have hbn := below_alloc1 (w := w7) (.cells #[.bool true, .bool true, .bool true] 4)
  have G10 := Lib.hid (G9.out.old hbn)
  clear hbn G9
  refine (winside_is (k := 0) (j := 2) G10.out.g G10.out.n (lit_bools w7 [true, true, true] (by decide) 3 rfl) (by decide) (by decide)).mono ?_
  rintro e w8 ⟨x, rfl, hx, hb⟩
  obtain rfl := hx.uniq ring8_whole
  have G11 := Lib.hid (G10.out.old hb)
  clear hb hx G10
  go_wp2_with fail
  have hbn := below_alloc1 (w := w8) (.cells #[.bool true, .bool true] 4)
  have G12 := Lib.hid (G11.out.old hbn)
  clear hbn G11
  refine (winside_is (k := 0) (j := 2) G12.out.g G12.out.n (lit_bools w8 [true, true] (by decide) 2 rfl) (by decide) (by decide)).mono ?_
  rintro e w9 ⟨x, rfl, hx, hb⟩
  obtain rfl : x = 1152921504606846976 := hx.uniq ring8_shut
  have G13 := Lib.hid (G12.out.old hb)
  clear hb hx G12
  go_wp2_with fail
  have hbn := below_alloc1 (w := w9) (.cells #[.int .i64 0, .int .i64 3] 3)
  have G14 := Lib.hid (G13.out.old hbn)
  clear hbn G13
  refine (wcost_is G14.out.g G14.out.n (lit_i64 w9 [0, 3] (by decide) 2 rfl _) ring8_cost).mono ?_
  rintro e w10 ⟨rfl, hb⟩
  have G15 := Lib.hid (G14.out.old hb)
  clear hb G14
  go_wp2_with fail
  refine (wTo_is G15.out.g G15.out.n 2 (by omega) (by omega)).mono ?_
  rintro e w11 ⟨tv, C, rfl, ht, hT, hb⟩
  obtain rfl := hT.uniq ring8_to2
  obtain ⟨tq, tc, rfl⟩ := ht.shape
  have G16 := Lib.hid (G15.out.old hb)
  clear ht hT hb G15
  go_wp2_with fail
  refine (wTo_is G16.out.g G16.out.n 2 (by omega) (by omega)).mono ?_
  rintro e w12 ⟨tv, C, rfl, ht, hT, hb⟩
  obtain rfl := hT.uniq ring8_to2
  obtain ⟨tq2, tc2, rfl⟩ := ht.shape
  obtain ⟨b, o, rfl, hc0⟩ := ht.at (k := 0) (by decide)
  have hblt := World.block_lt_of_cell? w12 _ hc0
  rw [Nat.add_zero] at hc0
  simp only [List.getElem_cons_zero] at hc0
  have G17 := Lib.hid (G16.out.old hb)
  clear ht hT hb G16
  go_wp2_with fail
  clear hc0
  refine (wreach_is G17.out.g G17.out.n 3 (by omega) (by omega)).mono ?_
  rintro e w13 ⟨rv, C, rfl, hr, hF, hb⟩
  obtain rfl := hF.uniq ring8_from3
  have G18 := Lib.hid (G17.out.old hb)
  rcases hr with ⟨h1, -⟩ | ⟨-, rb, ro, rc, -, rfl, hrc⟩
  · cases h1
  · have hr3 := hrc 3 (by decide)
    have hr4 : w13.cell? ⟨rb, ro + 3, none⟩ = some (.bool true) := hr3
    have hrl := World.block_lt_of_cell? w13 _ hr4
    have HLEN : Hid ((reachL [inf8, inf8, inf8, 0]).length = 4) := Lib.hid rfl
    rw [HLEN.out]
    clear hrc hr3 hF hb G17
    go_wp2_with fail
    go_ret
    exact ⟨rfl, G18.out.b⟩
end

end Go.Proofs.YtgihaakgadmidaaGreat
