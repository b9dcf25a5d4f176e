/-
  The listed variable: what a walk is told of it; a world in which it holds what is listed. Tables that come in.
-/
import Derived.Test.YtgihaakgadmidaaGreatLift
import Derived.Test.YtgihaakgadmidaaGreatRows
import Derived.Test.YtgihaakgadmidaaGreatT1
import Derived.Test.YtgihaakgadmidaaGreatA2
import Derived.Lib.SmallJoins
import Derived.Test.YtgihaakgadmidaaGreatA1
import Derived.Deep.Slices
import Derived.Deep.Fields
namespace Go.Proofs.YtgihaakgadmidaaGreat
open Go.ChangeShapes Go.WideShapes Go.ChangeAt Go.RowKit Go.Joins

set_option maxRecDepth 100000 in
theorem open_row64 {H : Type} {enc : TypeId × Value → H} {W : World} {a : Option Addr} {len cap fuel : Nat} {y : DataW H × List MemPlace} (hf : DataW.trod enc Tryz.prog W 0 (fun _ => true) true fuel 36 [.slice a len cap] = some y) :
    ∃ l, I64s W (.slice a len cap) l ∧ In64 l := by
  rcases open_ints Tryz.underlying36 Tryz.underlying2 (by kernel_rfl) hf with ⟨hcs, _⟩ | ⟨x, l, c, zs, hcs, _, hl, hm, hz, _, hcell, hwz⟩
  · simp at hcs
    obtain ⟨rfl, rfl, rfl⟩ := hcs
    exact ⟨[], Or.inl ⟨rfl, _, _, rfl, fun _ => rfl⟩, by intro x hx; cases hx⟩
  · simp at hcs
    obtain ⟨rfl, rfl, rfl⟩ := hcs
    have hz' : zs.length = cap := by simpa using hz
    unfold maxLen at hm
    have hin : In64 (zs.take len) := fun y hy => wf64 (hwz y (List.mem_of_mem_take hy))
    have hlen : (zs.take len).length = len := by rw [List.length_take]; omega
    rcases Nat.eq_zero_or_pos len with h0 | h0
    · subst h0
      exact ⟨[], Or.inl ⟨rfl, _, _, rfl, fun h => by cases h⟩, by intro x hx; cases hx⟩
    · have hs : x.spot = none := World.cell?_spot (hcell 0 (by omega))
      obtain ⟨xb, xo, xs⟩ := x
      have hs' : xs = none := hs
      subst hs'
      refine ⟨zs.take len, Or.inr ⟨by omega, xb, xo, cap, by omega, by omega, by rw [hlen], fun i hi => ?_⟩, hin⟩
      have := hcell i (by omega)
      rw [List.getElem_take]
      rw [List.getD_eq_getElem?_getD, List.getElem?_eq_getElem (by omega)] at this
      rcases Nat.eq_zero_or_pos i with rfl | h1
      · simpa [Addr.add] using this
      · have h2 : ¬ i = 0 := by omega
        simpa [Addr.add, h2] using this

theorem tabCells : Tryz.prog.cellsOf 68 = 3 := by kernel_rfl
end Go.Proofs.YtgihaakgadmidaaGreat

/-
  Nets that came in.
-/
namespace Go.Proofs.YtgihaakgadmidaaGreat
open Go.ChangeShapes Go.WideShapes Go.ChangeAt Go.RowKit Go.Joins Go.Deep

section
variable {H : Type} {enc : TypeId × Value → H} {W : World}
set_option maxRecDepth 100000 in
/-- A row of structs of three fields, a cell each: each one's cells, and how they are read. -/
theorem open_row3 {t e : TypeId} {f0 f1 f2 : Field} (ht : Tryz.prog.underlying t = some (.slice e)) (he : Tryz.prog.underlying e = some (.struct #[f0, f1, f2])) (hone : oneCellFields Tryz.prog #[f0, f1, f2] = true) (hC : Tryz.prog.cellsOf e = 3)
    {a : Option Addr} {len cap fuel : Nat} {y : DataW H × List MemPlace} (h : DataW.trod enc Tryz.prog W 0 (fun _ => true) true fuel t [.slice a len cap] = some y) :
    (a = none ∧ len = 0 ∧ cap = 0) ∨ ∃ ad : Addr, a = some ad ∧ len ≤ cap ∧ cap ≤ maxLen ∧ ∀ i, i < len → ∃ (v0 v1 v2 : Value) (n : Nat) (y0 y1 y2 : DataW H × List MemPlace),
      W.cell? (ad.add (i * 3)) = some v0 ∧ W.cell? (ad.add (i * 3 + 1)) = some v1 ∧ W.cell? (ad.add (i * 3 + 2)) = some v2 ∧
      DataW.trod enc Tryz.prog W 0 (fun _ => true) true n f0.type [v0] = some y0 ∧ DataW.trod enc Tryz.prog W 0 (fun _ => true) true n f1.type [v1] = some y1 ∧ DataW.trod enc Tryz.prog W 0 (fun _ => true) true n f2.type [v2] = some y2 := by
  rcases open_slice ht h with ⟨hcs, _⟩ | ⟨ad, len', cap', m, n, D, Pl, hcs, _, hl, hm, hmm, _, hi⟩
  · simp at hcs
    exact Or.inl hcs
  · right
    simp at hcs
    obtain ⟨rfl, rfl, rfl⟩ := hcs
    refine ⟨ad, rfl, hl, hm, fun i hlt => ?_⟩
    obtain ⟨cs', hc, ht'⟩ := hi i (by simp at hmm; omega)
    rw [hC] at hc
    obtain ⟨_, hcl, hat⟩ := World.cells?_some hc
    obtain ⟨xs, n', _, _, _, hxl, hf⟩ := DataW.trod_struct he ht'
    obtain ⟨o0, k0⟩ := hone_of hone 0 f0 rfl
    obtain ⟨o1, k1⟩ := hone_of hone 1 f1 rfl
    obtain ⟨o2, k2⟩ := hone_of hone 2 f2 rfl
    match cs', hcl, xs, hxl with
    | [c0, c1, c2], _, [y0, y1, y2], _ =>
      have g0 := hf 0 f0 rfl
      have g1 := hf 1 f1 rfl
      have g2 := hf 2 f2 rfl
      rw [o0, k0] at g0
      rw [o1, k1] at g1
      rw [o2, k2] at g2
      have h0 := hat 0 (by omega)
      have h1 := hat 1 (by omega)
      have h2 := hat 2 (by omega)
      rw [add_add] at h0 h1 h2
      exact ⟨c0, c1, c2, n', y0, y1, y2, h0, h1, h2, g0, g1, g2⟩
set_option maxRecDepth 100000 in
/-- .. of numbers. -/
theorem open_tris {t e : TypeId} {f0 f1 f2 : Field} (ht : Tryz.prog.underlying t = some (.slice e)) (he : Tryz.prog.underlying e = some (.struct #[f0, f1, f2])) (hone : oneCellFields Tryz.prog #[f0, f1, f2] = true) (hC : Tryz.prog.cellsOf e = 3)
    (u0 : Tryz.prog.underlying f0.type = some (.int .i64)) (u1 : Tryz.prog.underlying f1.type = some (.int .i64)) (u2 : Tryz.prog.underlying f2.type = some (.int .i64))
    {a : Option Addr} {len cap fuel : Nat} {y : DataW H × List MemPlace} (h : DataW.trod enc Tryz.prog W 0 (fun _ => true) true fuel t [.slice a len cap] = some y) :
    ∃ l, Tris W (.slice a len cap) l ∧ InTri l := by
  rcases open_row3 ht he hone hC h with ⟨rfl, rfl, rfl⟩ | ⟨ad, rfl, hl, hm, hi⟩
  · exact ⟨[], Or.inl ⟨rfl, _, _, rfl, fun _ => rfl⟩, by intro x hx; cases hx⟩
  · have key : ∀ i, i < len → ∃ x : Tri, (W.cell? (ad.add (i * 3)) = some (.int .i64 x.1) ∧ W.cell? (ad.add (i * 3 + 1)) = some (.int .i64 x.2.1) ∧ W.cell? (ad.add (i * 3 + 2)) = some (.int .i64 x.2.2)) ∧
        (-9223372036854775808 ≤ x.1 ∧ x.1 ≤ 9223372036854775807) ∧ (-9223372036854775808 ≤ x.2.1 ∧ x.2.1 ≤ 9223372036854775807) ∧ (-9223372036854775808 ≤ x.2.2 ∧ x.2.2 ≤ 9223372036854775807) := by
      intro i hlt
      obtain ⟨v0, v1, v2, n, y0, y1, y2, c0, c1, c2, t0, t1, t2⟩ := hi i hlt
      obtain ⟨x0, e0, -, w0⟩ := DataW.trod_int u0 t0
      obtain ⟨x1, e1, -, w1⟩ := DataW.trod_int u1 t1
      obtain ⟨x2, e2, -, w2⟩ := DataW.trod_int u2 t2
      simp at e0 e1 e2
      subst e0
      subst e1
      subst e2
      exact ⟨(x0, x1, x2), ⟨c0, c1, c2⟩, wf64 w0, wf64 w1, wf64 w2⟩
    have hall : ∃ g : Nat → Tri, ∀ i, i < len → (W.cell? (ad.add (i * 3)) = some (.int .i64 (g i).1) ∧ W.cell? (ad.add (i * 3 + 1)) = some (.int .i64 (g i).2.1) ∧ W.cell? (ad.add (i * 3 + 2)) = some (.int .i64 (g i).2.2)) ∧
        (-9223372036854775808 ≤ (g i).1 ∧ (g i).1 ≤ 9223372036854775807) ∧ (-9223372036854775808 ≤ (g i).2.1 ∧ (g i).2.1 ≤ 9223372036854775807) ∧ (-9223372036854775808 ≤ (g i).2.2 ∧ (g i).2.2 ≤ 9223372036854775807) :=
      ⟨fun i => if h : i < len then (key i h).choose else (0, 0, 0), fun i hlt => by simp only [hlt, dif_pos]; exact (key i hlt).choose_spec⟩
    obtain ⟨g, hg⟩ := hall
    have hlen : ((List.range len).map g).length = len := by simp
    refine ⟨(List.range len).map g, ?_, fun x hx => ?_⟩
    · rcases Nat.eq_zero_or_pos len with h0 | h0
      · subst h0
        obtain ⟨xb, xo, xs⟩ := ad
        exact Or.inl ⟨rfl, _, _, rfl, fun h => by cases h⟩
      · have hs : ad.spot = none := by
          have := World.cell?_spot (hg 0 h0).1.1
          simpa [Addr.add] using this
        obtain ⟨xb, xo, xs⟩ := ad
        have hs' : xs = none := hs
        subst hs'
        unfold maxLen at hm
        have hadd : ∀ j, (⟨xb, xo, none⟩ : Addr).add j = ⟨xb, xo + j, none⟩ := fun j => by unfold Addr.add; split <;> simp_all
        refine Or.inr ⟨by omega, xb, xo, cap, by omega, by omega, by rw [hlen], fun i hi' => ?_⟩
        have hi2 : i < len := by omega
        have hgi : ((List.range len).map g)[i] = g i := by simp
        rw [hgi]
        have := (hg i hi2).1
        rw [hadd, hadd, hadd] at this
        simpa [Nat.add_assoc] using this
    · obtain ⟨i, hi', rfl⟩ := List.mem_map.1 hx
      exact (hg i (List.mem_range.1 hi')).2
set_option maxRecDepth 100000 in
/-- .. of tables. -/
theorem open_tabs {t e : TypeId} {f0 f1 f2 : Field} (ht : Tryz.prog.underlying t = some (.slice e)) (he : Tryz.prog.underlying e = some (.struct #[f0, f1, f2])) (hone : oneCellFields Tryz.prog #[f0, f1, f2] = true) (hC : Tryz.prog.cellsOf e = 3)
    (u0 : Tryz.prog.underlying f0.type = some (.int .i64)) (u1 : Tryz.prog.underlying f1.type = some (.int .i64)) (u2 : f2.type = 36)
    {a : Option Addr} {len cap fuel : Nat} {y : DataW H × List MemPlace} (h : DataW.trod enc Tryz.prog W 0 (fun _ => true) true fuel t [.slice a len cap] = some y) :
    ∃ l, Tabs W (.slice a len cap) l ∧ InTab l := by
  rcases open_row3 ht he hone hC h with ⟨rfl, rfl, rfl⟩ | ⟨ad, rfl, hl, hm, hi⟩
  · exact ⟨[], Or.inl ⟨rfl, _, _, rfl, fun _ => rfl⟩, by intro x hx; cases hx⟩
  · have key : ∀ i, i < len → ∃ x : Tab, (∃ u, W.cell? (ad.add (i * 3)) = some (.int .i64 x.1) ∧ W.cell? (ad.add (i * 3 + 1)) = some (.int .i64 x.2.1) ∧ W.cell? (ad.add (i * 3 + 2)) = some u ∧ I64s W u x.2.2) ∧
        (-9223372036854775808 ≤ x.1 ∧ x.1 ≤ 9223372036854775807) ∧ (-9223372036854775808 ≤ x.2.1 ∧ x.2.1 ≤ 9223372036854775807) ∧ In64 x.2.2 := by
      intro i hlt
      obtain ⟨v0, v1, v2, n, y0, y1, y2, c0, c1, c2, t0, t1, t2⟩ := hi i hlt
      obtain ⟨x0, e0, -, w0⟩ := DataW.trod_int u0 t0
      obtain ⟨x1, e1, -, w1⟩ := DataW.trod_int u1 t1
      simp at e0 e1
      subst e0
      subst e1
      rw [u2] at t2
      obtain ⟨b, bl, bc, e2⟩ := slice_form Tryz.underlying36 t2
      simp at e2
      subst e2
      obtain ⟨l, h1, h2⟩ := open_row64 t2
      exact ⟨(x0, x1, l), ⟨_, c0, c1, c2, h1⟩, wf64 w0, wf64 w1, h2⟩
    have hall : ∃ g : Nat → Tab, ∀ i, i < len → (∃ u, W.cell? (ad.add (i * 3)) = some (.int .i64 (g i).1) ∧ W.cell? (ad.add (i * 3 + 1)) = some (.int .i64 (g i).2.1) ∧ W.cell? (ad.add (i * 3 + 2)) = some u ∧ I64s W u (g i).2.2) ∧
        (-9223372036854775808 ≤ (g i).1 ∧ (g i).1 ≤ 9223372036854775807) ∧ (-9223372036854775808 ≤ (g i).2.1 ∧ (g i).2.1 ≤ 9223372036854775807) ∧ In64 (g i).2.2 :=
      ⟨fun i => if h : i < len then (key i h).choose else (0, 0, []), fun i hlt => by simp only [hlt, dif_pos]; exact (key i hlt).choose_spec⟩
    obtain ⟨g, hg⟩ := hall
    have hlen : ((List.range len).map g).length = len := by simp
    refine ⟨(List.range len).map g, ?_, fun x hx => ?_⟩
    · rcases Nat.eq_zero_or_pos len with h0 | h0
      · subst h0
        obtain ⟨xb, xo, xs⟩ := ad
        exact Or.inl ⟨rfl, _, _, rfl, fun h => by cases h⟩
      · have hs : ad.spot = none := by
          obtain ⟨u, hu, _⟩ := (hg 0 h0).1
          have := World.cell?_spot hu
          simpa [Addr.add] using this
        obtain ⟨xb, xo, xs⟩ := ad
        have hs' : xs = none := hs
        subst hs'
        unfold maxLen at hm
        have hadd : ∀ j, (⟨xb, xo, none⟩ : Addr).add j = ⟨xb, xo + j, none⟩ := fun j => by unfold Addr.add; split <;> simp_all
        refine Or.inr ⟨by omega, xb, xo, cap, by omega, by omega, by rw [hlen], fun i hi' => ?_⟩
        have hi2 : i < len := by omega
        have hgi : ((List.range len).map g)[i] = g i := by simp
        rw [hgi]
        obtain ⟨u, k0, k1, k2, k3⟩ := (hg i hi2).1
        rw [hadd] at k0 k1 k2
        exact ⟨u, k0, by simpa [Nat.add_assoc] using k1, by simpa [Nat.add_assoc] using k2, k3⟩
    · obtain ⟨i, hi', rfl⟩ := List.mem_map.1 hx
      exact (hg i (List.mem_range.1 hi')).2
end

theorem netCells : Tryz.prog.cellsOf 26 = 3 := by kernel_rfl
theorem vertCells : Tryz.prog.cellsOf 70 = 3 := by kernel_rfl
theorem arcCells : Tryz.prog.cellsOf 65 = 3 := by kernel_rfl
set_option maxRecDepth 100000 in
theorem open_net {H : Type} {enc : TypeId × Value → H} {W : World} {base : Nat} {v : Value} {d : DataW H} {p : List MemPlace} (hok : Value.okWide Tryz.prog W .any base 26 v) (h : DataW.Trod enc Tryz.prog W 0 (fun _ => true) true 26 v d p) :
    ∃ n, NetV W v n ∧ InNet n := by
  obtain ⟨v0, v1, v2, y0, y1, y2, n, rfl, rfl, rfl, h0, h1, h2⟩ := open_agg3 Tryz.underlying26 (by kernel_rfl) netCells hok h
  obtain ⟨a0, l0, c0, e0⟩ := slice_form Tryz.underlying22 h0
  obtain ⟨a1, l1, c1, e1⟩ := slice_form Tryz.underlying23 h1
  obtain ⟨a2, l2, c2, e2⟩ := slice_form Tryz.underlying24 h2
  simp at e0 e1 e2
  subst e0
  subst e1
  subst e2
  obtain ⟨lv, hv, iv⟩ := open_tris Tryz.underlying22 Tryz.underlying70 (by kernel_rfl) vertCells Tryz.underlying3 Tryz.underlying3 Tryz.underlying3 h0
  obtain ⟨la, ha, ia⟩ := open_tris Tryz.underlying23 Tryz.underlying65 (by kernel_rfl) arcCells Tryz.underlying3 Tryz.underlying3 Tryz.underlying2 h1
  obtain ⟨lt, ht, it⟩ := open_tabs Tryz.underlying24 Tryz.underlying68 (by kernel_rfl) tabCells Tryz.underlying3 Tryz.underlying3 rfl h2
  exact ⟨⟨lv, la, lt⟩, ⟨_, _, _, rfl, hv, ha, ht⟩, iv, ia, it⟩

end Go.Proofs.YtgihaakgadmidaaGreat
