/-
  Arguments that came in; from a law's walk to its row, where no variable is listed.
-/
import Derived.Test.YtmbeelakkiodaaaRows
import Derived.Test.YtmbeelakkiodaaaLift
import Derived.Test.YtmbeelakkiodaaaHpP
import Derived.Deep.Slices
import Derived.Deep.Fields
import Derived.Lib.SmallJoins
namespace Go.Proofs.Ytmbeelakkiodaaa
open Go.ChangeShapes Go.WideShapes Go.ChangeAt Go.RowKit Go.Joins Go.Deep

/-- What a law's walk is told of its arguments, where nothing is listed. -/
structure GivenP {H : Type} (enc : TypeId × Value → H) (fn : Func) (W : World) (args : Array Value) (ds : List (DataW H)) : Prop where
  reads : ∃ ps, DataW.TrodAll enc Try.prog W 0 (fun _ => true) true fn.params.toList args.toList ds ps
  okay : ∃ base, ∀ (j : Nat) t v, fn.params[j]? = some t → args[j]? = some v → Value.okWide Try.prog W .any base t v
def WalksP (F : FuncId) (fn : Func) : Prop :=
  ∀ (H : Type) (enc : TypeId × Value → H) (W : World) (args : Array Value) (ds : List (DataW H)), GivenP enc fn W args ds →
    Calls Try.prog F args W fun e W' => e = .returned (.bool true) ∧ Below W.heap.size W W'

set_option maxRecDepth 100000 in
theorem law_plain {F : FuncId} {fn : Func} {s : ChangeSpec} (hfn : Try.checked.prog.funcs[F]? = some fn) (noInit : Try.checked.prog.inits.idxOf? F = none)
    (hv : s.vars = []) (hres : fn.resultTypes = #[4])
    (hspec : ∀ (H : Type) (ds : List (DataW H)), ds.length = fn.params.toList.length → (s.fn H ds).results = [.lit (.bool true)] ∧ (s.fn H ds).args = ds ∧ (s.fn H ds).vars = [])
    (hread : (fn.params.toList.all fun t => Try.prog.readableRec t && decide (t < Try.prog.types.size)) = true)
    (os : Os) (started : os.Started) (H : Type) (enc : TypeId × Value → H)
    (wit : ∃ (w : World) (tape : Tape) (i : Input), w.os = os ∧ (w.forCall tape i).Shaped Try.checked.prog ∧ i.vars = [] ∧ Input.okWide Try.checked.prog (w.forCall tape i) .any w.heap.size F i ∧
      s.pre6 enc Try.checked.prog fn [] false (w.forCall tape i).memory i.args ∧ ({} : Assume).holds Try.checked.prog (lone (Frame.enter Try.checked.prog F i.args .normal) [] (w.forCall tape i)))
    (walk : WalksP F fn) :
    ReturnsInHanded {} Try.checked os F .any (s.pre6 enc Try.prog fn [] false) (s.post enc Try.prog fn false true false false) := by
  refine returnsInHanded_of_change (C := Try.checked) own started noInit hfn wit ?_
  intro W base args ds gs before hval hW _ _
  have hW' := hW
  obtain ⟨p, q, hA, hV, hbef, hfz, hnd⟩ := hW
  rw [hv] at hV
  obtain ⟨rfl, rfl⟩ : gs = [] ∧ q = [] := by
    cases gs with
    | nil => exact ⟨rfl, hV⟩
    | cons g r => exact absurd hV (by intro h; cases h)
  obtain ⟨e1, e2, e3⟩ := hspec H ds (trodAll_length hA)
  refine (walk H enc W args ds ⟨⟨p, hA⟩, ⟨base, hval⟩⟩).mono fun e W' ⟨he, bel⟩ => ?_
  subst he
  refine ⟨_, rfl, _, _, _, [], p, [], hW', ?_, ?_, ?_, bel.frame _, fun h => by cases h⟩
  · rw [List.append_nil, e1, hres]; exact trodAll_mk1 (shut_bool Try.underlying4 true)
  · rw [List.append_nil, e2]; exact trodAll_below laidOut bel hread hA
  · rw [List.append_nil, e3, hv]; rfl

abbrev Tri := Int × Int × Int
/-- The value v is a row of three numbers each, read in world w. -/
def Tris (w : World) (v : Value) (l : List Tri) : Prop :=
  (l = [] ∧ ∃ p c, v = .slice p 0 c ∧ (p = none → c = 0)) ∨ (l.length ≤ 9223372036854775807 ∧ ∃ b o c, l.length ≤ c ∧ c ≤ 9223372036854775807 ∧ v = .slice (some ⟨b, o, none⟩) l.length c ∧
    ∀ i (h : i < l.length), w.cell? ⟨b, o + i * 3, none⟩ = some (.int .i64 l[i].1) ∧ w.cell? ⟨b, o + i * 3 + 1, none⟩ = some (.int .i64 l[i].2.1) ∧ w.cell? ⟨b, o + i * 3 + 2, none⟩ = some (.int .i64 l[i].2.2))
/-- All of them are 64-bit numbers. -/
def InTri (l : List Tri) : Prop := ∀ x ∈ l, (-9223372036854775808 ≤ x.1 ∧ x.1 ≤ 9223372036854775807) ∧ (-9223372036854775808 ≤ x.2.1 ∧ x.2.1 ≤ 9223372036854775807) ∧ (-9223372036854775808 ≤ x.2.2 ∧ x.2.2 ≤ 9223372036854775807)
theorem Tris.shape {w : World} {v : Value} {l : List Tri} (h : Tris w v l) : ∃ q c, v = .slice q l.length c := by
  rcases h with ⟨rfl, p, c, rfl, -⟩ | ⟨_, b, o, c, -, -, rfl, _⟩
  · exact ⟨p, c, rfl⟩
  · exact ⟨_, c, rfl⟩
theorem Tris.below {w w' : World} {v : Value} {l : List Tri} (h : Tris w v l) (hb : Below w.heap.size w w') : Tris w' v l := by
  rcases h with h | ⟨hl, b, o, c, h1, h2, rfl, hc⟩
  · exact Or.inl h
  · refine Or.inr ⟨hl, b, o, c, h1, h2, rfl, fun i hi => ?_⟩
    obtain ⟨x, y, z⟩ := hc i hi
    exact ⟨(hb.cell (World.block_lt_of_cell? w _ x)).trans x, (hb.cell (World.block_lt_of_cell? w _ y)).trans y, (hb.cell (World.block_lt_of_cell? w _ z)).trans z⟩
theorem Tris.le {w : World} {v : Value} {l : List Tri} (h : Tris w v l) : l.length ≤ 9223372036854775807 := by
  rcases h with ⟨rfl, _⟩ | ⟨h, _⟩
  · simp
  · exact h
/-- The cells of the k-th. -/
theorem Tris.at {w : World} {q : Option Addr} {n c : Nat} {l : List Tri} (h : Tris w (.slice q n c) l) {k : Nat} (hk : k < l.length) :
    ∃ b o, q = some ⟨b, o, none⟩ ∧ w.cell? ⟨b, o + k * 3, none⟩ = some (.int .i64 l[k].1) ∧ w.cell? ⟨b, o + k * 3 + 1, none⟩ = some (.int .i64 l[k].2.1) ∧ w.cell? ⟨b, o + k * 3 + 2, none⟩ = some (.int .i64 l[k].2.2) := by
  rcases h with ⟨rfl, _⟩ | ⟨_, b, o, c', _, _, e, hc⟩
  · simp at hk
  · injection e with e1
    exact ⟨b, o, e1, hc k hk⟩

section
variable {H : Type} {enc : TypeId × Value → H} {W : World}
set_option maxRecDepth 100000 in
/-- A row of structs of three fields, a cell each: each one's cells, and how they are read. -/
theorem open_row3 {t e : TypeId} {f0 f1 f2 : Field} (ht : Try.prog.underlying t = some (.slice e)) (he : Try.prog.underlying e = some (.struct #[f0, f1, f2])) (hone : oneCellFields Try.prog #[f0, f1, f2] = true) (hC : Try.prog.cellsOf e = 3)
    {a : Option Addr} {len cap fuel : Nat} {y : DataW H × List MemPlace} (h : DataW.trod enc Try.prog W 0 (fun _ => true) true fuel t [.slice a len cap] = some y) :
    (a = none ∧ len = 0 ∧ cap = 0) ∨ ∃ ad : Addr, a = some ad ∧ len ≤ cap ∧ cap ≤ maxLen ∧ ∀ i, i < len → ∃ (v0 v1 v2 : Value) (n : Nat) (y0 y1 y2 : DataW H × List MemPlace),
      W.cell? (ad.add (i * 3)) = some v0 ∧ W.cell? (ad.add (i * 3 + 1)) = some v1 ∧ W.cell? (ad.add (i * 3 + 2)) = some v2 ∧
      DataW.trod enc Try.prog W 0 (fun _ => true) true n f0.type [v0] = some y0 ∧ DataW.trod enc Try.prog W 0 (fun _ => true) true n f1.type [v1] = some y1 ∧ DataW.trod enc Try.prog W 0 (fun _ => true) true n f2.type [v2] = some y2 := by
  rcases open_slice ht h with ⟨hcs, _⟩ | ⟨ad, len', cap', m, n, D, Pl, hcs, _, hl, hm, hmm, _, hi⟩
  · simp at hcs
    exact Or.inl hcs
  · right
    simp at hcs
    obtain ⟨rfl, rfl, rfl⟩ := hcs
    refine ⟨ad, rfl, hl, hm, fun i hlt => ?_⟩
    obtain ⟨cs', hc, ht'⟩ := hi i (by simp at hmm; omega)
    rw [hC] at hc
    obtain ⟨_, hcl, hat⟩ := World.cells?_some hc
    obtain ⟨xs, n', _, _, _, hxl, hf⟩ := DataW.trod_struct he ht'
    obtain ⟨o0, k0⟩ := hone_of hone 0 f0 rfl
    obtain ⟨o1, k1⟩ := hone_of hone 1 f1 rfl
    obtain ⟨o2, k2⟩ := hone_of hone 2 f2 rfl
    match cs', hcl, xs, hxl with
    | [c0, c1, c2], _, [y0, y1, y2], _ =>
      have g0 := hf 0 f0 rfl
      have g1 := hf 1 f1 rfl
      have g2 := hf 2 f2 rfl
      rw [o0, k0] at g0
      rw [o1, k1] at g1
      rw [o2, k2] at g2
      have h0 := hat 0 (by omega)
      have h1 := hat 1 (by omega)
      have h2 := hat 2 (by omega)
      rw [add_add] at h0 h1 h2
      exact ⟨c0, c1, c2, n', y0, y1, y2, h0, h1, h2, g0, g1, g2⟩
set_option maxRecDepth 100000 in
/-- .. of numbers. -/
theorem open_tris {t e : TypeId} {f0 f1 f2 : Field} (ht : Try.prog.underlying t = some (.slice e)) (he : Try.prog.underlying e = some (.struct #[f0, f1, f2])) (hone : oneCellFields Try.prog #[f0, f1, f2] = true) (hC : Try.prog.cellsOf e = 3)
    (u0 : Try.prog.underlying f0.type = some (.int .i64)) (u1 : Try.prog.underlying f1.type = some (.int .i64)) (u2 : Try.prog.underlying f2.type = some (.int .i64))
    {a : Option Addr} {len cap fuel : Nat} {y : DataW H × List MemPlace} (h : DataW.trod enc Try.prog W 0 (fun _ => true) true fuel t [.slice a len cap] = some y) :
    ∃ l, Tris W (.slice a len cap) l ∧ InTri l := by
  rcases open_row3 ht he hone hC h with ⟨rfl, rfl, rfl⟩ | ⟨ad, rfl, hl, hm, hi⟩
  · exact ⟨[], Or.inl ⟨rfl, _, _, rfl, fun _ => rfl⟩, by intro x hx; cases hx⟩
  · have key : ∀ i, i < len → ∃ x : Tri, (W.cell? (ad.add (i * 3)) = some (.int .i64 x.1) ∧ W.cell? (ad.add (i * 3 + 1)) = some (.int .i64 x.2.1) ∧ W.cell? (ad.add (i * 3 + 2)) = some (.int .i64 x.2.2)) ∧
        (-9223372036854775808 ≤ x.1 ∧ x.1 ≤ 9223372036854775807) ∧ (-9223372036854775808 ≤ x.2.1 ∧ x.2.1 ≤ 9223372036854775807) ∧ (-9223372036854775808 ≤ x.2.2 ∧ x.2.2 ≤ 9223372036854775807) := by
      intro i hlt
      obtain ⟨v0, v1, v2, n, y0, y1, y2, c0, c1, c2, t0, t1, t2⟩ := hi i hlt
      obtain ⟨x0, e0, -, w0⟩ := DataW.trod_int u0 t0
      obtain ⟨x1, e1, -, w1⟩ := DataW.trod_int u1 t1
      obtain ⟨x2, e2, -, w2⟩ := DataW.trod_int u2 t2
      simp at e0 e1 e2
      subst e0
      subst e1
      subst e2
      exact ⟨(x0, x1, x2), ⟨c0, c1, c2⟩, wf64 w0, wf64 w1, wf64 w2⟩
    have hall : ∃ g : Nat → Tri, ∀ i, i < len → (W.cell? (ad.add (i * 3)) = some (.int .i64 (g i).1) ∧ W.cell? (ad.add (i * 3 + 1)) = some (.int .i64 (g i).2.1) ∧ W.cell? (ad.add (i * 3 + 2)) = some (.int .i64 (g i).2.2)) ∧
        (-9223372036854775808 ≤ (g i).1 ∧ (g i).1 ≤ 9223372036854775807) ∧ (-9223372036854775808 ≤ (g i).2.1 ∧ (g i).2.1 ≤ 9223372036854775807) ∧ (-9223372036854775808 ≤ (g i).2.2 ∧ (g i).2.2 ≤ 9223372036854775807) :=
      ⟨fun i => if h : i < len then (key i h).choose else (0, 0, 0), fun i hlt => by simp only [hlt, dif_pos]; exact (key i hlt).choose_spec⟩
    obtain ⟨g, hg⟩ := hall
    have hlen : ((List.range len).map g).length = len := by simp
    refine ⟨(List.range len).map g, ?_, fun x hx => ?_⟩
    · rcases Nat.eq_zero_or_pos len with h0 | h0
      · subst h0
        obtain ⟨xb, xo, xs⟩ := ad
        exact Or.inl ⟨rfl, _, _, rfl, fun h => by cases h⟩
      · have hs : ad.spot = none := by
          have := World.cell?_spot (hg 0 h0).1.1
          simpa [Addr.add] using this
        obtain ⟨xb, xo, xs⟩ := ad
        have hs' : xs = none := hs
        subst hs'
        unfold maxLen at hm
        have hadd : ∀ j, (⟨xb, xo, none⟩ : Addr).add j = ⟨xb, xo + j, none⟩ := fun j => by unfold Addr.add; split <;> simp_all
        refine Or.inr ⟨by omega, xb, xo, cap, by omega, by omega, by rw [hlen], fun i hi' => ?_⟩
        have hi2 : i < len := by omega
        have hgi : ((List.range len).map g)[i] = g i := by simp
        rw [hgi]
        have := (hg i hi2).1
        rw [hadd, hadd, hadd] at this
        simpa [Nat.add_assoc] using this
    · obtain ⟨i, hi', rfl⟩ := List.mem_map.1 hx
      exact (hg i (List.mem_range.1 hi')).2
end
/-- The value v is a row of numbers of kind k, read in world w. -/
def Nums (k : IntKind) (w : World) (v : Value) (l : List Int) : Prop :=
  (l = [] ∧ ∃ p c, v = .slice p 0 c ∧ (p = none → c = 0)) ∨ (l.length ≤ 9223372036854775807 ∧ ∃ b o c, l.length ≤ c ∧ c ≤ 9223372036854775807 ∧ v = .slice (some ⟨b, o, none⟩) l.length c ∧ ∀ i (h : i < l.length), w.cell? ⟨b, o + i, none⟩ = some (.int k l[i]))
def InU8 (l : List Int) : Prop := ∀ x ∈ l, 0 ≤ x ∧ x ≤ 255
theorem Nums.shape {k : IntKind} {w : World} {v : Value} {l : List Int} (h : Nums k w v l) : ∃ q c, v = .slice q l.length c := by
  rcases h with ⟨rfl, p, c, rfl, -⟩ | ⟨_, b, o, c, -, -, rfl, _⟩
  · exact ⟨p, c, rfl⟩
  · exact ⟨_, c, rfl⟩
theorem Nums.below {k : IntKind} {w w' : World} {v : Value} {l : List Int} (h : Nums k w v l) (hb : Below w.heap.size w w') : Nums k w' v l := by
  rcases h with h | ⟨hl, b, o, c, h1, h2, rfl, hc⟩
  · exact Or.inl h
  · exact Or.inr ⟨hl, b, o, c, h1, h2, rfl, fun i hi => (hb.cell (World.block_lt_of_cell? w _ (hc i hi))).trans (hc i hi)⟩
theorem Nums.len {k : IntKind} {w : World} {v : Value} {l : List Int} (h : Nums k w v l) : l.length ≤ 9223372036854775807 := by
  rcases h with ⟨rfl, _⟩ | ⟨h, _⟩
  · simp
  · exact h
theorem Nums.at {k : IntKind} {w : World} {q : Option Addr} {n c : Nat} {l : List Int} (h : Nums k w (.slice q n c) l) {i : Nat} {x : Int} (hx : l[i]? = some x) :
    ∃ b o, q = some ⟨b, o, none⟩ ∧ w.cell? ⟨b, o + i, none⟩ = some (.int k x) ∧ l.length ≤ c ∧ b < w.heap.size := by
  have hi := lt_of_get hx
  rcases h with ⟨rfl, _⟩ | ⟨_, b, o, c', h1, _, e, hc⟩
  · simp at hi
  · injection e with e1 e2 e3
    have := hc i hi
    rw [List.getElem?_eq_getElem hi] at hx
    injection hx with hx
    rw [hx] at this
    exact ⟨b, o, e1, this, by omega, World.block_lt_of_cell? w _ this⟩
theorem wfp8 {a : Int} (h : (Lit.int .u8 a).wf = true) : 0 ≤ a ∧ a ≤ 255 := by
  simpa [Lit.wf, IntKind.min, IntKind.max, IntKind.signed, IntKind.bits] using h

set_option maxRecDepth 100000 in
theorem open_nums {H : Type} {enc : TypeId × Value → H} {W : World} {base : Nat} {k : IntKind} {t e : TypeId} (ht : Try.prog.underlying t = some (.slice e)) (he : Try.prog.underlying e = some (.int k)) (hc1 : Try.prog.cellsOf e = 1) {v : Value} {d : DataW H} {p : List MemPlace} (hok : Value.okWide Try.prog W .any base t v) (h : DataW.Trod enc Try.prog W 0 (fun _ => true) true t v d p) :
    ∃ l, Nums k W v l ∧ ∀ x ∈ l, (Lit.int k x).wf = true := by
  obtain ⟨a, len, cap, rfl⟩ := okWide_slice ht hok
  obtain ⟨fuel, hf⟩ := h
  rcases open_ints ht he hc1 hf with ⟨hcs, _⟩ | ⟨x, l, c, zs, hcs, _, hl, hm, hz, _, hcell, hwz⟩
  · simp [Value.cells] at hcs
    obtain ⟨rfl, rfl, rfl⟩ := hcs
    exact ⟨[], Or.inl ⟨rfl, _, _, rfl, fun _ => rfl⟩, by intro x hx; cases hx⟩
  · simp [Value.cells] at hcs
    obtain ⟨rfl, rfl, rfl⟩ := hcs
    have hz' : zs.length = cap := by simpa using hz
    unfold maxLen at hm
    have hin : ∀ x ∈ zs.take len, (Lit.int k x).wf = true := fun y hy => hwz y (List.mem_of_mem_take hy)
    have hlen : (zs.take len).length = len := by rw [List.length_take]; omega
    rcases Nat.eq_zero_or_pos len with h0 | h0
    · subst h0
      exact ⟨[], Or.inl ⟨rfl, _, _, rfl, fun h => by cases h⟩, by intro x hx; cases hx⟩
    · have hs : x.spot = none := World.cell?_spot (hcell 0 (by omega))
      obtain ⟨xb, xo, xs⟩ := x
      have hs' : xs = none := hs
      subst hs'
      refine ⟨zs.take len, Or.inr ⟨by omega, xb, xo, cap, by omega, by omega, by rw [hlen], fun i hi => ?_⟩, hin⟩
      have := hcell i (by omega)
      rw [List.getElem_take]
      rw [List.getD_eq_getElem?_getD, List.getElem?_eq_getElem (by omega)] at this
      rcases Nat.eq_zero_or_pos i with rfl | h1
      · simpa [Addr.add] using this
      · have h2 : ¬ i = 0 := by omega
        simpa [Addr.add, h2] using this
theorem open_u8p {H : Type} {enc : TypeId × Value → H} {W : World} {base : Nat} {v : Value} {d : DataW H} {p : List MemPlace} (hok : Value.okWide Try.prog W .any base 35 v) (h : DataW.Trod enc Try.prog W 0 (fun _ => true) true 35 v d p) : ∃ l, Nums .u8 W v l ∧ InU8 l := by
  obtain ⟨l, h1, h2⟩ := open_nums Try.underlying35 Try.underlying5 (by kernel_rfl) hok h
  exact ⟨l, h1, fun x hx => wfp8 (h2 x hx)⟩
theorem open_i64p {H : Type} {enc : TypeId × Value → H} {W : World} {base : Nat} {v : Value} {d : DataW H} {p : List MemPlace} (hok : Value.okWide Try.prog W .any base 36 v) (h : DataW.Trod enc Try.prog W 0 (fun _ => true) true 36 v d p) : ∃ l, Nums .i64 W v l ∧ In64 l := by
  obtain ⟨l, h1, h2⟩ := open_nums Try.underlying36 Try.underlying2 (by kernel_rfl) hok h
  exact ⟨l, h1, fun x hx => wf64 (h2 x hx)⟩
theorem actCells : Try.prog.cellsOf 29 = 3 := by kernel_rfl
theorem open_acts {H : Type} {enc : TypeId × Value → H} {W : World} {base : Nat} {v : Value} {d : DataW H} {p : List MemPlace} (hok : Value.okWide Try.prog W .any base 22 v) (h : DataW.Trod enc Try.prog W 0 (fun _ => true) true 22 v d p) : ∃ l, Tris W v l ∧ InTri l := by
  obtain ⟨a, len, cap, rfl⟩ := okWide_slice Try.underlying22 hok
  obtain ⟨fuel, hf⟩ := h
  exact open_tris Try.underlying22 Try.underlying29 (by kernel_rfl) actCells Try.underlying3 Try.underlying3 Try.underlying2 (by simpa [Value.cells] using hf)

end Go.Proofs.Ytmbeelakkiodaaa
