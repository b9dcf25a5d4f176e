/-
  Rows of acts that came in: five numbers each.
-/
import Derived.Test.YtgehjkcjpbdoaaaDoorNetIn
import Derived.Test.YtgehjkcjpbdoaaaDoorDo6
namespace Go.Proofs.YtgehjkcjpbdoaaaDoor
open Go.ChangeShapes Go.WideShapes Go.ChangeAt Go.RowKit Go.Joins Go.Deep

/-- The value v is a row of acts, read in world w. -/
def Acts (w : World) (v : Value) (l : List ActD) : Prop :=
  (l = [] ∧ ∃ p c, v = .slice p 0 c) ∨ (l.length ≤ 9223372036854775807 ∧ ∃ b o c, v = .slice (some ⟨b, o, none⟩) l.length c ∧
    ∀ i (h : i < l.length), w.cell? ⟨b, o + i * 5, none⟩ = some (.int .i64 l[i].k) ∧ w.cell? ⟨b, o + i * 5 + 1, none⟩ = some (.int .i64 l[i].a) ∧ w.cell? ⟨b, o + i * 5 + 2, none⟩ = some (.int .i64 l[i].i) ∧ w.cell? ⟨b, o + i * 5 + 3, none⟩ = some (.int .i64 l[i].o) ∧ w.cell? ⟨b, o + i * 5 + 4, none⟩ = some (.int .i64 l[i].w))
def InAct (l : List ActD) : Prop := ∀ x ∈ l, -9223372036854775808 ≤ x.w ∧ x.w ≤ 9223372036854775807
theorem Acts.shape {w : World} {v : Value} {l : List ActD} (h : Acts w v l) : ∃ q c, v = .slice q l.length c := by
  rcases h with ⟨rfl, p, c, rfl⟩ | ⟨_, b, o, c, rfl, _⟩
  · exact ⟨p, c, rfl⟩
  · exact ⟨_, c, rfl⟩
theorem Acts.le {w : World} {v : Value} {l : List ActD} (h : Acts w v l) : l.length ≤ 9223372036854775807 := by
  rcases h with ⟨rfl, _⟩ | ⟨h, _⟩
  · simp
  · exact h
/-- The cells of the k-th. -/
theorem Acts.at {w : World} {q : Option Addr} {n c : Nat} {l : List ActD} (h : Acts w (.slice q n c) l) {k : Nat} (hk : k < l.length) :
    ∃ b o, q = some ⟨b, o, none⟩ ∧ w.cell? ⟨b, o + k * 5, none⟩ = some (.int .i64 l[k].k) ∧ w.cell? ⟨b, o + k * 5 + 1, none⟩ = some (.int .i64 l[k].a) ∧ w.cell? ⟨b, o + k * 5 + 2, none⟩ = some (.int .i64 l[k].i) ∧ w.cell? ⟨b, o + k * 5 + 3, none⟩ = some (.int .i64 l[k].o) ∧ w.cell? ⟨b, o + k * 5 + 4, none⟩ = some (.int .i64 l[k].w) := by
  rcases h with ⟨rfl, _⟩ | ⟨_, b, o, c', e, hc⟩
  · simp at hk
  · injection e with e1
    exact ⟨b, o, e1, hc k hk⟩

section
variable {H : Type} {enc : TypeId × Value → H} {W : World}
set_option maxRecDepth 100000 in
/-- A row of structs of five fields, a cell each: each one's cells, and how they are read. -/
theorem open_row5 {t e : TypeId} {f0 f1 f2 f3 f4 : Field} (ht : Tryd.prog.underlying t = some (.slice e)) (he : Tryd.prog.underlying e = some (.struct #[f0, f1, f2, f3, f4])) (hone : oneCellFields Tryd.prog #[f0, f1, f2, f3, f4] = true) (hC : Tryd.prog.cellsOf e = 5)
    {a : Option Addr} {len cap fuel : Nat} {y : DataW H × List MemPlace} (h : DataW.trod enc Tryd.prog W 0 (fun _ => true) true fuel t [.slice a len cap] = some y) :
    (a = none ∧ len = 0 ∧ cap = 0) ∨ ∃ ad : Addr, a = some ad ∧ len ≤ cap ∧ cap ≤ maxLen ∧ ∀ i, i < len → ∃ (v0 v1 v2 v3 v4 : Value) (n : Nat) (y0 y1 y2 y3 y4 : DataW H × List MemPlace),
      W.cell? (ad.add (i * 5)) = some v0 ∧ W.cell? (ad.add (i * 5 + 1)) = some v1 ∧ W.cell? (ad.add (i * 5 + 2)) = some v2 ∧ W.cell? (ad.add (i * 5 + 3)) = some v3 ∧ W.cell? (ad.add (i * 5 + 4)) = some v4 ∧
      DataW.trod enc Tryd.prog W 0 (fun _ => true) true n f0.type [v0] = some y0 ∧ DataW.trod enc Tryd.prog W 0 (fun _ => true) true n f1.type [v1] = some y1 ∧ DataW.trod enc Tryd.prog W 0 (fun _ => true) true n f2.type [v2] = some y2 ∧ DataW.trod enc Tryd.prog W 0 (fun _ => true) true n f3.type [v3] = some y3 ∧ DataW.trod enc Tryd.prog W 0 (fun _ => true) true n f4.type [v4] = some y4 := by
  rcases open_slice ht h with ⟨hcs, _⟩ | ⟨ad, len', cap', m, n, D, Pl, hcs, _, hl, hm, hmm, _, hi⟩
  · simp at hcs
    exact Or.inl hcs
  · right
    simp at hcs
    obtain ⟨rfl, rfl, rfl⟩ := hcs
    refine ⟨ad, rfl, hl, hm, fun i hlt => ?_⟩
    obtain ⟨cs', hc, ht'⟩ := hi i (by simp at hmm; omega)
    rw [hC] at hc
    obtain ⟨_, hcl, hat⟩ := World.cells?_some hc
    obtain ⟨xs, n', _, _, _, hxl, hf⟩ := DataW.trod_struct he ht'
    obtain ⟨o0, k0⟩ := hone_of hone 0 f0 rfl
    obtain ⟨o1, k1⟩ := hone_of hone 1 f1 rfl
    obtain ⟨o2, k2⟩ := hone_of hone 2 f2 rfl
    obtain ⟨o3, k3⟩ := hone_of hone 3 f3 rfl
    obtain ⟨o4, k4⟩ := hone_of hone 4 f4 rfl
    match cs', hcl, xs, hxl with
    | [c0, c1, c2, c3, c4], _, [y0, y1, y2, y3, y4], _ =>
      have g0 := hf 0 f0 rfl
      have g1 := hf 1 f1 rfl
      have g2 := hf 2 f2 rfl
      have g3 := hf 3 f3 rfl
      have g4 := hf 4 f4 rfl
      rw [o0, k0] at g0
      rw [o1, k1] at g1
      rw [o2, k2] at g2
      rw [o3, k3] at g3
      rw [o4, k4] at g4
      have h0 := hat 0 (by omega)
      have h1 := hat 1 (by omega)
      have h2 := hat 2 (by omega)
      have h3 := hat 3 (by omega)
      have h4 := hat 4 (by omega)
      rw [add_add] at h0 h1 h2 h3 h4
      exact ⟨c0, c1, c2, c3, c4, n', y0, y1, y2, y3, y4, h0, h1, h2, h3, h4, g0, g1, g2, g3, g4⟩
end
theorem act6Cells : Tryd.prog.cellsOf 49 = 5 := by kernel_rfl
set_option maxRecDepth 100000 in
theorem open_acts6 {H : Type} {enc : TypeId × Value → H} {W : World} {base : Nat} {v : Value} {d : DataW H} {p : List MemPlace} (hok : Value.okWide Tryd.prog W .any base 27 v) (h : DataW.Trod enc Tryd.prog W 0 (fun _ => true) true 27 v d p) : ∃ l, Acts W v l ∧ InAct l := by
  obtain ⟨a, len, cap, rfl⟩ := okWide_slice Tryd.underlying27 hok
  obtain ⟨fuel, hf⟩ := h
  rcases open_row5 Tryd.underlying27 Tryd.underlying49 (by kernel_rfl) act6Cells (by simpa [Value.cells] using hf) with ⟨rfl, rfl, rfl⟩ | ⟨ad, rfl, hl, hm, hi⟩
  · exact ⟨[], Or.inl ⟨rfl, _, _, rfl⟩, by intro x hx; cases hx⟩
  · have key : ∀ i, i < len → ∃ x : ActD, (W.cell? (ad.add (i * 5)) = some (.int .i64 x.k) ∧ W.cell? (ad.add (i * 5 + 1)) = some (.int .i64 x.a) ∧ W.cell? (ad.add (i * 5 + 2)) = some (.int .i64 x.i) ∧ W.cell? (ad.add (i * 5 + 3)) = some (.int .i64 x.o) ∧ W.cell? (ad.add (i * 5 + 4)) = some (.int .i64 x.w)) ∧
        (-9223372036854775808 ≤ x.w ∧ x.w ≤ 9223372036854775807) := by
      intro i hlt
      obtain ⟨v0, v1, v2, v3, v4, n, y0, y1, y2, y3, y4, c0, c1, c2, c3, c4, t0, t1, t2, t3, t4⟩ := hi i hlt
      obtain ⟨x0, e0, -, w0⟩ := DataW.trod_int Tryd.underlying3 t0
      obtain ⟨x1, e1, -, w1⟩ := DataW.trod_int Tryd.underlying3 t1
      obtain ⟨x2, e2, -, w2⟩ := DataW.trod_int Tryd.underlying3 t2
      obtain ⟨x3, e3, -, w3⟩ := DataW.trod_int Tryd.underlying3 t3
      obtain ⟨x4, e4, -, w4⟩ := DataW.trod_int Tryd.underlying2 t4
      simp at e0 e1 e2 e3 e4
      subst e0
      subst e1
      subst e2
      subst e3
      subst e4
      exact ⟨⟨x0, x1, x2, x3, x4⟩, ⟨c0, c1, c2, c3, c4⟩, wf64 w4⟩
    have hall : ∃ g : Nat → ActD, ∀ i, i < len → (W.cell? (ad.add (i * 5)) = some (.int .i64 (g i).k) ∧ W.cell? (ad.add (i * 5 + 1)) = some (.int .i64 (g i).a) ∧ W.cell? (ad.add (i * 5 + 2)) = some (.int .i64 (g i).i) ∧ W.cell? (ad.add (i * 5 + 3)) = some (.int .i64 (g i).o) ∧ W.cell? (ad.add (i * 5 + 4)) = some (.int .i64 (g i).w)) ∧
        (-9223372036854775808 ≤ (g i).w ∧ (g i).w ≤ 9223372036854775807) :=
      ⟨fun i => if h : i < len then (key i h).choose else ⟨0, 0, 0, 0, 0⟩, fun i hlt => by simp only [hlt, dif_pos]; exact (key i hlt).choose_spec⟩
    obtain ⟨g, hg⟩ := hall
    have hlen : ((List.range len).map g).length = len := by simp
    refine ⟨(List.range len).map g, ?_, fun x hx => ?_⟩
    · rcases Nat.eq_zero_or_pos len with h0 | h0
      · subst h0
        obtain ⟨xb, xo, xs⟩ := ad
        exact Or.inl ⟨rfl, _, _, rfl⟩
      · have hs : ad.spot = none := by
          have := World.cell?_spot (hg 0 h0).1.1
          simpa [Addr.add] using this
        obtain ⟨xb, xo, xs⟩ := ad
        have hs' : xs = none := hs
        subst hs'
        unfold maxLen at hm
        have hadd : ∀ j, (⟨xb, xo, none⟩ : Addr).add j = ⟨xb, xo + j, none⟩ := fun j => by unfold Addr.add; split <;> simp_all
        refine Or.inr ⟨by omega, xb, xo, cap, by rw [hlen], fun i hi' => ?_⟩
        have hi2 : i < len := by omega
        have hgi : ((List.range len).map g)[i] = g i := by simp
        rw [hgi]
        have := (hg i hi2).1
        rw [hadd, hadd, hadd, hadd, hadd] at this
        simpa [Nat.add_assoc] using this
    · obtain ⟨i, hi', rfl⟩ := List.mem_map.1 hx
      exact (hg i (List.mem_range.1 hi')).2

end Go.Proofs.YtgehjkcjpbdoaaaDoor
