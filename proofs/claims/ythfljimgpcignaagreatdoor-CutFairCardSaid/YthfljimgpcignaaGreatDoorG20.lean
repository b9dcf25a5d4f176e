/-
  Ends, Half, Fair of the program; Near of the laws; the document's Place, Coord.
-/
import Derived.Test.YthfljimgpcignaaGreatDoorLnC
import Derived.Test.YthfljimgpcignaaGreatDoorG15
import Derived.Test.YthfljimgpcignaaGreatDoorG19
import Derived.ArgAppend
import Derived.Maps.AppendAt
namespace Go.Proofs.YthfljimgpcignaaGreatDoor
open Go.RowKit Go.Sort

/-- A row that was cut at its beginning. -/
def movedS (p : Option Addr) (c a : Nat) : Option Addr := if c = a then p else p.map fun q => q.add a
theorem sl_from {p : Option Addr} {c a n x y z : Nat} (h1 : x = n) (h2 : y = c - a) (h3 : z = a) : Value.slice (if c = z then p else Option.map (fun q => q.add z) p) x y = .slice (movedS p c a) n (c - a) := by
  subst h1 h2 h3
  rfl
theorem add0s (xb xo j : Nat) : (⟨xb, xo, none⟩ : Addr).add j = ⟨xb, xo + j, none⟩ := by unfold Addr.add; split <;> simp_all
theorem I64s.dropM {w : World} {q : Option Addr} {c : Nat} {l : List Int} (h : I64s w (.slice q l.length c) l) {a : Nat} (ha : a ≤ l.length) : I64s w (.slice (movedS q c a) (l.length - a) (c - a)) (l.drop a) := by
  rcases h with ⟨rfl, p, c', e, hp⟩ | ⟨hl, b, o, c', h1, h2, e, hc⟩
  · injection e with e1 e2 e3
    subst e1 e3
    obtain rfl : a = 0 := by simpa using ha
    refine Or.inl ⟨rfl, movedS q c 0, c, rfl, fun h => ?_⟩
    unfold movedS at h
    split at h
    · exact hp h
    · exact hp (by cases q with | none => rfl | some x => simp at h)
  · injection e with e1 e2 e3
    subst e1 e3
    by_cases hca : c = a
    · subst hca
      have h0 : l.length - c = 0 := by omega
      rw [h0]
      exact Or.inl ⟨List.drop_eq_nil_of_le (by omega), _, _, rfl, fun h => by unfold movedS at h; rw [if_pos rfl] at h; cases h⟩
    · refine Or.inr ⟨by rw [List.length_drop]; omega, b, o + a, c - a, by rw [List.length_drop]; omega, by omega, ?_, fun i hi => ?_⟩
      · unfold movedS
        rw [if_neg hca, Option.map_some, add0s, List.length_drop]
      · rw [List.getElem_drop, Nat.add_assoc]
        rw [List.length_drop] at hi
        exact hc (a + i) (by omega)
theorem I64s.takeC {w : World} {q : Option Addr} {c : Nat} {l : List Int} (h : I64s w (.slice q l.length c) l) {k : Nat} (hk : k ≤ l.length) : I64s w (.slice q k c) (l.take k) := by
  rcases h with ⟨rfl, p, c', e, hp⟩ | ⟨hl, b, o, c', h1, h2, e, hc⟩
  · injection e with e1 e2 e3
    subst e1 e3
    obtain rfl : k = 0 := by simpa using hk
    exact Or.inl ⟨rfl, q, c, rfl, hp⟩
  · injection e with e1 e2 e3
    subst e1 e3
    refine Or.inr ⟨by rw [List.length_take]; omega, b, o, c, by rw [List.length_take]; omega, h2, by rw [List.length_take, Nat.min_eq_left hk], fun i hi => ?_⟩
    rw [List.length_take] at hi
    rw [List.getElem_take]
    exact hc i (by omega)
theorem I64s.capN {w : World} {q : Option Addr} {n c : Nat} {l : List Int} (h : I64s w (.slice q n c) l) : n = l.length ∧ (q = none → c = 0 ∧ n = 0) ∧ (n ≤ c ∨ l = []) ∧ l.length ≤ 9223372036854775807 := by
  rcases h with ⟨rfl, p, c', e, hp⟩ | ⟨hl, b, o, c', h1, h2, e, hc⟩
  · injection e with e1 e2 e3
    subst e1 e2 e3
    exact ⟨rfl, fun h => ⟨hp h, rfl⟩, Or.inr rfl, by simp⟩
  · injection e with e1 e2 e3
    subst e1 e2 e3
    exact ⟨rfl, fun h => (by cases h), Or.inl h1, hl⟩
/-- A row copied behind nil. -/
theorem copyNil (W : World) (v : Value) (l : List Int) (hv : I64s W v l) (hs : l.length ≤ 100000) :
    ∃ q c w', (Builtin.append_ #[39, 39] 39 #[.slice none 0 0, v]).run Tryz.prog W = .ok (.slice q l.length c) w' ∧ I64s w' (.slice q l.length c) l ∧ Below W.heap.size W w' := by
  obtain ⟨i0, hi, hz0, hz1, hz2⟩ := info_parts infoInt
  have ht : Tryz.prog.underlying 39 = some (.slice 3) := Tryz.underlying39
  have hnil : W.ownsRow W.heap.size 3 1 (.slice none 0 0) 0 [] := ⟨rfl, Or.inl ⟨rfl, rfl⟩⟩
  have key : ∀ (ad : Addr) (c : Nat), (∀ j u, (l.map (Value.int .i64))[j]? = some u → W.cell? (ad.add j) = some u) → ∃ q c0 w', (Builtin.append_ #[39, 39] 39 #[.slice none 0 0, .slice (some ad) l.length c]).run Tryz.prog W = .ok (.slice q l.length c0) w' ∧ I64s w' (.slice q l.length c0) l ∧ Below W.heap.size W w' := fun ad c hn => by
    obtain ⟨v', w', hr, h1, h2, -⟩ := run_append_own (P := Tryz.prog) W W.heap.size 39 39 3 i0 (.int .i64 0) 1 8 ht hi hz0 hz1 hz2 rfl (by decide) (.slice none 0 0) 0 [] hnil ad l.length c (l.map (Value.int .i64)) (by simp) hn (by intro u hu; obtain ⟨x, -, rfl⟩ := List.mem_map.1 hu; rfl) (by simp [maxLen]; omega) (by omega) (Nat.le_refl _)
    rw [List.nil_append, Nat.zero_add] at h1
    obtain ⟨q, c0, rfl⟩ := own_shape h1
    exact ⟨q, c0, w', hr, ints_of_owns h1 (by omega), (Below.refl _ _).grown h2 (Nat.le_refl _) (by intro k hk; cases hk)⟩
  rcases hv with ⟨rfl, p, c, rfl, hpc⟩ | ⟨hl, b, o, c, -, -, rfl, hc⟩
  · cases p with
    | none =>
      refine ⟨none, 0, W, ?_, Or.inl ⟨rfl, _, _, rfl, fun _ => rfl⟩, Below.refl _ _⟩
      simp [Builtin.append_, run_underlying ht, sizeOf, typeInfo, hi, Builtin.lenOf, Builtin.firstCells]
    | some ad => exact key ad c (by intro j u h; simp at h)
  · refine key _ _ fun j u hu => ?_
    rw [add0s]
    obtain ⟨hj, hu⟩ := List.getElem?_eq_some_iff.1 hu
    have hj' : j < l.length := by simpa using hj
    rw [hc j hj', ← hu, List.getElem_map]
def FirstPost (w : World) (l : List Int) (e : Ending) (w' : World) : Prop := ∃ q c, e = .returned (.slice q l.length c) ∧ I64s w' (.slice q l.length c) l ∧ Below w.heap.size w w'
set_option maxHeartbeats 2000000 in
theorem first_is {w : World} {v : Value} {l : List Int} {k : Nat} (h : I64s w v l) (hk : k ≤ l.length) (hl : l.length ≤ 100000) :
    Calls Tryz.prog 50 #[v, .int .i64 (k : Int)] w (FirstPost w (l.take k)) := by
  obtain ⟨q, c, rfl⟩ := h.shape
  obtain ⟨-, -, hc, -⟩ := h.capN
  have hck : k ≤ c := by
    rcases hc with hc | rfl
    · omega
    · simp at hk; omega
  have hki : (k : Int) ≤ (c : Int) := by omega
  obtain ⟨q', c', w', hr, hv, hb⟩ := copyNil w _ _ (h.takeC hk) (by rw [List.length_take]; omega)
  have HP : Hid (FirstPost w (l.take k) (.returned (.slice q' (l.take k).length c')) w') := Lib.hid ⟨q', c', rfl, hv, hb⟩
  rw [show (l.take k).length = k from by rw [List.length_take]; omega] at hr HP
  have HR := Lib.hid hr
  clear hr hv hb h hc
  go_enter Tryz.func50, Tryz.ntmps50
  go_wp2_with (at_builtin; refine wpList_append_run (by rfl) _ _ _ rfl _ _ _ rfl rfl HR.out ?_)
  go_ret
  exact HP.out
theorem end_is (n : Nat) (w : World) (hn : n ≤ 1000000) {k : Nat} (hk : endN n = k) : Calls Tryz.prog 20 #[.int .i64 (n : Int)] w fun e w' => e = .returned (.int .i64 (k : Int)) ∧ w = w' := by
  unfold endN at hk
  by_cases h2 : n < 2
  · obtain rfl : k = 0 := by rw [← hk, if_pos h2]
    have h2i : (n : Int) < 2 := by omega
    clear hk h2
    go_enter Tryz.func20, Tryz.ntmps20
    go_wp2_with fail
    go_ret
    exact ⟨rfl, rfl⟩
  · rw [if_neg h2] at hk
    have h2i : ¬ (n : Int) < 2 := by omega
    have h3 : (n : Int) + 3 = ((n + 3 : Nat) : Int) := by omega
    have w1 : IntKind.i64.wrap ((n : Int) + 3) = ((n + 3 : Nat) : Int) := by rw [h3]; exact IntWalk.i64_in _ (by omega)
    obtain ⟨Z, hZ⟩ : ∃ Z : Int, ((n + 3 : Nat) : Int) = Z := ⟨_, rfl⟩
    rw [hZ] at w1
    have e1 : Z.tdiv 4 = (k : Int) := by rw [← hZ, ← hk]; rfl
    have e2 : IntKind.i64.wrap (Z.tdiv 4) = (k : Int) := by rw [e1]; exact IntWalk.i64_in _ (by omega)
    have e3 : Z / 4 = (k : Int) := by omega
    have e4 : IntKind.i64.wrap (k : Int) = (k : Int) := IntWalk.i64_in _ (by omega)
    clear hZ h3 hk h2
    go_enter Tryz.func20, Tryz.ntmps20
    go_wp2_with fail
    go_ret
    exact ⟨rfl, rfl⟩
theorem endN_le (n : Nat) : endN n ≤ n ∧ 2 * endN n ≤ n := by unfold endN; split <;> omega
def RowV (l : List Int) (v : Value) (_ : Unit) (w : World) : Prop := ∃ q c, v = .slice q l.length c ∧ I64s w (.slice q l.length c) l
theorem RowV.st {l : List Int} (v : Value) (s : Unit) (w : World) (s' : Unit) (w' : World) (h : RowV l v s w) (hr : GG.RlL s w s' w') : RowV l v s' w' := by
  obtain ⟨q, c, e, hk⟩ := h
  exact ⟨q, c, e, hk.below hr⟩
/-- A region that only makes memory. -/
structure GG.BelL (W : World) (_ : Nat → Bool) (_ : Unit) (w : World) : Prop where
  b : Below W.heap.size W w
theorem GG.BelL.still {W : World} {i : Nat} : GG.Still (GG.BelL W) GG.RlL i := ⟨fun _ _ _ h => ⟨h.b⟩, fun _ _ => Below.refl _ _⟩
def EndsPost (w : World) (l : List Int) (e : Ending) (w' : World) : Prop := ∃ q c q' c', e = .returned (.tuple #[.slice q (endN l.length) c, .slice q' (endN l.length) c']) ∧ I64s w' (.slice q (endN l.length) c) (l.take (endN l.length)) ∧ I64s w' (.slice q' (endN l.length) c') (l.drop (l.length - endN l.length)) ∧ Below w.heap.size w w'
set_option maxHeartbeats 4000000 in
set_option maxRecDepth 100000 in
theorem ends_is {w : World} {v : Value} {l : List Int} (h : I64s w v l) (hl : l.length ≤ 100000) :
    Calls Tryz.prog 34 #[v] w (EndsPost w l) := by
  obtain ⟨q, c, rfl⟩ := h.shape
  obtain ⟨-, -, hc, -⟩ := h.capN
  obtain ⟨k, hk⟩ : ∃ k, endN l.length = k := ⟨_, rfl⟩
  have hkl := (endN_le l.length).1
  have hck : l.length ≤ c := by
    rcases hc with hc | rfl
    · exact hc
    · simp
  rw [hk] at hkl
  have HK := Lib.hid hk
  have HV := Lib.hid h
  have HD := Lib.hid (h.dropM (a := l.length - k) (by omega))
  obtain ⟨J, hJ⟩ : ∃ J, l.length - k = J := ⟨_, rfl⟩
  rw [hJ, show l.length - J = k from by omega] at HD
  have hw : IntKind.i64.wrap ((l.length : Int) - (k : Int)) = (J : Int) := by
    rw [show (l.length : Int) - (k : Int) = (J : Int) from by omega]
    exact IntWalk.i64_in _ (by omega)
  have hs1 : (J : Int) ≤ (l.length : Int) := by omega
  have hs2 : l.length - J = k := by omega
  have hs3 : J ≤ l.length := by omega
  have HJ := Lib.hid hJ
  have hdl : (l.drop J).length = k := by rw [List.length_drop]; omega
  have htl : (l.take k).length = k := by rw [List.length_take]; omega
  have HDL := Lib.hid hdl
  have HTL := Lib.hid htl
  clear hdl htl
  have hwk : IntKind.i64.wrap (k : Int) = (k : Int) := IntWalk.i64_in _ (by omega)
  have DS0 : Hid (GG.BelL w (fun _ => false) () w.drew) := Lib.hid ⟨(Below.refl _ _).drew⟩
  clear hk h hc hJ
  go_enter Tryz.func34, Tryz.ntmps34
  go_wp2_with fail
  refine (end_is _ _ (by omega) HK.out).mono ?_
  rintro e w1 ⟨rfl, rfl⟩
  go_wp2_with fail
  refine' GG.wp_growL _ (GG.BelL w) [[], [], [0, 1], [], [], [4], [], [4, 5, 6], [3, 4, 5, 6, 7], [], [0, 1, 2, 3, 4, 5, 6, 7, 8, 9], [0, 1, 2, 3, 4, 5, 6, 7, 8, 9, 10], [0, 1, 2, 3, 4, 5, 6, 7, 8, 9, 10, 11]] (GG.Fact.lit (Rl := GG.RlL) _ :: GG.Fact.lit (Rl := GG.RlL) _ :: GG.Fact.prop (Rl := GG.RlL) _ _ :: GG.Fact.lit (Rl := GG.RlL) _ :: GG.Fact.lit (Rl := GG.RlL) _ :: GG.Fact.lit (Rl := GG.RlL) _ :: GG.Fact.lit (Rl := GG.RlL) _ :: GG.Fact.lit (Rl := GG.RlL) _ :: GG.Fact.lit (Rl := GG.RlL) _ :: GG.Fact.lit (Rl := GG.RlL) _ :: GG.Fact.prop (Rl := GG.RlL) _ _ :: GG.Fact.prop (Rl := GG.RlL) _ _ :: GG.Fact.prop (Rl := GG.RlL) _ _ :: []) (by kernel_rfl) rfl (by kernel_rfl) (()) (DS0.out) ?seqen
  case' seqen => skip
  (refine' GG.grow_lit (GG.BelL.still) rfl ?wten0 ?runen0 ?puten0 ?nexten0; (case wten0 => rfl); (case runen0 => (intro w' hS; (obtain ⟨dn, s, hS⟩ := hS); clear hS; go_simp; first | done | exact rfl)); (case puten0 => (first | (simp only [Act.put, List.setIfInBounds_toArray, List.set_cons_zero, List.set_cons_succ]; first | done | exact rfl) | rfl)); (case' nexten0 => skip))
  (refine' GG.grow_lit (GG.BelL.still) rfl ?wten1 ?runen1 ?puten1 ?nexten1; (case wten1 => rfl); (case runen1 => (intro w' hS; (obtain ⟨dn, s, hS⟩ := hS); clear hS; go_simp; first | done | exact rfl)); (case puten1 => (first | (simp only [Act.put, List.setIfInBounds_toArray, List.set_cons_zero, List.set_cons_succ]; first | done | exact rfl) | rfl)); (case' nexten1 => skip))
  (refine' GG.grow_any_call (p := RowV (l.take k)) (hp := RowV.st) rfl Tryz.func50 (by kernel_rfl) rfl rfl ?wten2 ?runen2 ?puten2 ?nexten2; (case wten2 => rfl); (case runen2 => (intro dn s w' hS hd H; exact (first_is (HV.out.below hS.b) hkl hl).mono (fun e w2 h => by obtain ⟨q1, c1, h1, h2, hb⟩ := h; exact ⟨_, (), h1, ⟨q1, c1, rfl, h2⟩, ⟨hS.b.trans (hb.mono hS.b.size)⟩, hb, hb.size⟩))); (case puten2 => (intro v; (simp only [Act.put, List.setIfInBounds_toArray, List.set_cons_zero, List.set_cons_succ]; first | done | exact rfl))); (case' nexten2 => intro v2))
  (refine' GG.grow_lit (GG.BelL.still) rfl ?wten3 ?runen3 ?puten3 ?nexten3; (case wten3 => rfl); (case runen3 => (intro w' hS; (obtain ⟨dn, s, hS⟩ := hS); clear hS; go_simp; first | done | exact rfl)); (case puten3 => (first | (simp only [Act.put, List.setIfInBounds_toArray, List.set_cons_zero, List.set_cons_succ]; first | done | exact rfl) | rfl)); (case' nexten3 => skip))
  (refine' GG.grow_lit (GG.BelL.still) rfl ?wten4 ?runen4 ?puten4 ?nexten4; (case wten4 => rfl); (case runen4 => (intro w' hS; (obtain ⟨dn, s, hS⟩ := hS); clear hS; go_simp; first | done | exact rfl)); (case puten4 => (first | (simp only [Act.put, List.setIfInBounds_toArray, List.set_cons_zero, List.set_cons_succ]; first | done | exact rfl) | rfl)); (case' nexten4 => skip))
  (refine' GG.grow_lit (GG.BelL.still) rfl ?wten5 ?runen5 ?puten5 ?nexten5; (case wten5 => rfl); (case runen5 => (intro w' hS; (obtain ⟨dn, s, hS⟩ := hS); clear hS; go_simp; first | done | exact rfl)); (case puten5 => (first | (simp only [Act.put, List.setIfInBounds_toArray, List.set_cons_zero, List.set_cons_succ]; first | done | exact rfl) | rfl)); (case' nexten5 => skip))
  (refine' GG.grow_lit (GG.BelL.still) rfl ?wten6 ?runen6 ?puten6 ?nexten6; (case wten6 => rfl); (case runen6 => (intro w' hS; (obtain ⟨dn, s, hS⟩ := hS); clear hS; go_simp; first | done | exact rfl)); (case puten6 => (first | (simp only [Act.put, List.setIfInBounds_toArray, List.set_cons_zero, List.set_cons_succ]; first | done | exact rfl) | rfl)); (case' nexten6 => skip))
  (refine' GG.grow_lit (GG.BelL.still) rfl ?wten7 ?runen7 ?puten7 ?nexten7; (case wten7 => rfl); (case runen7 => (intro w' hS; (obtain ⟨dn, s, hS⟩ := hS); clear hS; go_simp; first | done | exact rfl)); (case puten7 => (first | (simp only [Act.put, List.setIfInBounds_toArray, List.set_cons_zero, List.set_cons_succ]; first | done | exact rfl) | rfl)); (case' nexten7 => skip))
  (refine' GG.grow_write (u := .slice (movedS q c J) k (c - J)) rfl ?wten8 ?runen8 ?puten8 ?nexten8; (case wten8 => rfl); (case runen8 => (intro dn s w' hS hd H; refine ⟨(), w', ?_, ⟨hS.b⟩, Below.refl _ _, Nat.le_refl _⟩; clear H hS; go_simp; rfl)); (case puten8 => (first | (simp only [Act.put, List.setIfInBounds_toArray, List.set_cons_zero, List.set_cons_succ]; first | done | exact rfl) | rfl)); (case' nexten8 => skip))
  (refine' GG.grow_lit (GG.BelL.still) rfl ?wten9 ?runen9 ?puten9 ?nexten9; (case wten9 => rfl); (case runen9 => (intro w' hS; (obtain ⟨dn, s, hS⟩ := hS); clear hS; go_simp; first | done | exact rfl)); (case puten9 => (first | (simp only [Act.put, List.setIfInBounds_toArray, List.set_cons_zero, List.set_cons_succ]; first | done | exact rfl) | rfl)); (case' nexten9 => skip))
  (refine' GG.grow_any_call (p := RowV (l.drop J)) (hp := RowV.st) rfl Tryz.func50 (by kernel_rfl) rfl rfl ?wten10 ?runen10 ?puten10 ?nexten10; (case wten10 => rfl); (case runen10 => (intro dn s w' hS hd H; exact (first_is (k := k) (HD.out.below hS.b) (by rw [HDL.out]; exact Nat.le_refl _) (by rw [HDL.out]; omega)).mono (fun e w2 h => by obtain ⟨q1, c1, h1, h2, hb⟩ := h; rw [List.take_of_length_le (by rw [HDL.out]; exact Nat.le_refl _)] at h1 h2; exact ⟨_, (), h1, ⟨q1, c1, rfl, h2⟩, ⟨hS.b.trans (hb.mono hS.b.size)⟩, hb, hb.size⟩))); (case puten10 => (intro v; (simp only [Act.put, List.setIfInBounds_toArray, List.set_cons_zero, List.set_cons_succ]; first | done | exact rfl))); (case' nexten10 => intro v10))
  (refine' GG.grow_any_op (p := RowV (l.take k)) (hp := RowV.st) rfl ?wten11 ?runen11 ?puten11 ?nexten11; (case wten11 => rfl); (case runen11 => (intro dn s w' hS hd H; (have h2 : RowV (l.take k) v2 () w' := H 2 (by decide)); refine ⟨v2, (), w', ?_, h2, ⟨hS.b⟩, Below.refl _ _, Nat.le_refl _⟩; (clear H hS h2; go_simp))); (case puten11 => (intro v; (simp only [Act.put, List.setIfInBounds_toArray, List.set_cons_zero, List.set_cons_succ]; first | done | exact rfl))); (case' nexten11 => intro v11))
  (refine' GG.grow_any_op (p := RowV (l.drop J)) (hp := RowV.st) rfl ?wten12 ?runen12 ?puten12 ?nexten12; (case wten12 => rfl); (case runen12 => (intro dn s w' hS hd H; (have h2 : RowV (l.drop J) v10 () w' := H 10 (by decide)); refine ⟨v10, (), w', ?_, h2, ⟨hS.b⟩, Below.refl _ _, Nat.le_refl _⟩; (clear H hS h2; go_simp))); (case puten12 => (intro v; (simp only [Act.put, List.setIfInBounds_toArray, List.set_cons_zero, List.set_cons_succ]; first | done | exact rfl))); (case' nexten12 => intro v12))
  intro dn s w8 hS _ hk
  obtain ⟨q1, c1, rfl, h1⟩ : RowV (l.take k) v11 () w8 := hk 11 (by decide)
  obtain ⟨q2, c2, rfl, h2⟩ : RowV (l.drop J) v12 () w8 := hk 12 (by decide)
  rw [HTL.out] at h1 ⊢
  rw [HDL.out] at h2 ⊢
  have HP : Hid (EndsPost w l (.returned (.tuple #[.slice q1 k c1, .slice q2 k c2])) w8) := Lib.hid (by
    unfold EndsPost
    rw [HK.out, HJ.out]
    exact ⟨q1, c1, q2, c2, rfl, h1, h2, hS.b⟩)
  clear hk hS h1 h2 DS0
  go_wp2_with fail
  exact bodyPost_ret (v := .tuple #[.slice q1 k c1, .slice q2 k c2]) (by simp [results, Tryz.results34, go_sem]) rfl HP.out
def HalfPost (w : World) (l : List Int) (k : Nat) (e : Ending) (w' : World) : Prop := ∃ q c, e = .returned (.slice q k c) ∧ I64s w' (.slice q k c) (l.take k) ∧ Below w.heap.size w w'
set_option maxHeartbeats 4000000 in
theorem half_is {w : World} {v : Value} {l : List Int} (h : I64s w v l) (hl : l.length ≤ 100000) {k : Nat} (hk : (l.length + 1) / 2 = k) :
    Calls Tryz.prog 37 #[v] w (HalfPost w l k) := by
  obtain ⟨q, c, rfl⟩ := h.shape
  have HV := Lib.hid h
  have hkl : k ≤ l.length := by omega
  have htl : (l.take k).length = k := by rw [List.length_take]; omega
  have HTL := Lib.hid htl
  have h3 : (l.length : Int) + 1 = ((l.length + 1 : Nat) : Int) := by omega
  have w1 : IntKind.i64.wrap ((l.length : Int) + 1) = ((l.length + 1 : Nat) : Int) := by rw [h3]; exact IntWalk.i64_in _ (by omega)
  obtain ⟨Z, hZ⟩ : ∃ Z : Int, ((l.length + 1 : Nat) : Int) = Z := ⟨_, rfl⟩
  rw [hZ] at w1
  have e1 : Z.tdiv 2 = (k : Int) := by rw [← hZ, ← hk]; rfl
  have e2 : IntKind.i64.wrap (Z.tdiv 2) = (k : Int) := by rw [e1]; exact IntWalk.i64_in _ (by omega)
  have e3 : Z / 2 = (k : Int) := by omega
  have e4 : IntKind.i64.wrap (k : Int) = (k : Int) := IntWalk.i64_in _ (by omega)
  clear h h3 hZ hk htl
  go_enter Tryz.func37, Tryz.ntmps37
  go_wp2_with fail
  clear w1 e1 e2 e3 e4
  refine (first_is HV.out hkl hl).mono ?_
  rintro e w1 ⟨q1, c1, rfl, h1, hb⟩
  rw [HTL.out] at h1 ⊢
  have HP : Hid (HalfPost w l k (.returned (.slice q1 k c1)) w1) := Lib.hid ⟨q1, c1, rfl, h1, hb⟩
  clear h1 hb
  go_wp2_with fail
  go_ret
  exact HP.out
set_option maxHeartbeats 4000000 in
theorem fair_is {w : World} {v : Value} {l : List Bool} (h : Bools w v l) (hl : l.length ≤ 100000) {r : Bool} (hr : fairL l = r) :
    Calls Tryz.prog 8 #[v] w fun e w' => e = .returned (.bool r) ∧ w = w' := by
  obtain ⟨q, c, rfl⟩ := h.shape
  have HV := Lib.hid h
  have HR := Lib.hid hr
  clear h hr
  go_enter Tryz.func8, Tryz.ntmps8
  go_wp2_with fail
  go_loop [3, 5, 9] (fun mv _ iv => ∃ k : Nat, k ≤ l.length ∧ iv = .int .i64 k ∧ mv = .int .i64 (cntT (l.take k) : Nat)) (fun _ _ iv => l.length - (intOf iv).toNat)
  case atStart => exact ⟨0, Nat.zero_le _, rfl, rfl⟩
  case round =>
    obtain ⟨k, hk, rfl, rfl⟩ := hrel
    by_cases hlt : k < l.length
    · have hki : (k : Int) < (l.length : Int) := by omega
      obtain ⟨bb, bo, rfl, bc⟩ := HV.out.at (k := k) hlt
      have bl := World.block_lt_of_cell? w _ bc
      have HT : Hid (l.take (k + 1) = l.take k ++ [l[k]]) := Lib.hid (List.take_succ_eq_append_getElem hlt)
      have hcl : cntT (l.take k) ≤ k := by have := cntT_le (l.take k); rw [List.length_take] at this; omega
      generalize l[k] = x at bc HT
      cases x with
      | true =>
        have HC : Hid (cntT (l.take (k + 1)) = cntT (l.take k) + 1) := Lib.hid (by rw [HT.out, cntT_snoc]; rfl)
        generalize cntT (l.take k) = m at HC hcl
        clear HT
        go_wp2_with fail
        go_round
        case rel => exact ⟨k + 1, hlt, by go_num, by rw [HC.out]; go_num⟩
        case measure => simp [intOf]; omega
      | false =>
        have HC : Hid (cntT (l.take (k + 1)) = cntT (l.take k)) := Lib.hid (by rw [HT.out, cntT_snoc]; rfl)
        generalize cntT (l.take k) = m at HC hcl
        clear HT
        go_wp2_with fail
        go_round
        case rel => exact ⟨k + 1, hlt, by go_num, by rw [HC.out]⟩
        case measure => simp [intOf]; omega
    · obtain rfl : k = l.length := by omega
      rw [List.take_length]
      have hcl := cntT_le l
      obtain ⟨k, hk⟩ : ∃ k, endN l.length = k := ⟨_, rfl⟩
      have HF : Hid ((decide (0 < k) && (decide (k ≤ cntT l) && decide (k ≤ l.length - cntT l))) = r) := Lib.hid (by rw [← hk]; exact HR.out)
      have HK := Lib.hid hk
      generalize cntT l = m at hcl HF
      have hw : IntKind.i64.wrap ((l.length : Int) - (m : Int)) = (l.length : Int) - (m : Int) := IntWalk.i64_in _ (by omega)
      clear hk hlt
      go_wp2_with fail
      refine (end_is _ _ (by omega) HK.out).mono ?_
      rintro e w1 ⟨rfl, rfl⟩
      by_cases h0 : 0 < k
      · have h0i : (0 : Int) < (k : Int) := by omega
        by_cases h1 : k ≤ m
        · have h1i : (k : Int) ≤ (m : Int) := by omega
          by_cases h2 : k ≤ l.length - m
          · have h2i : (k : Int) ≤ (l.length : Int) - (m : Int) := by omega
            have HX : Hid (r = true) := Lib.hid (by rw [← HF.out]; simp [h0, h1, h2])
            clear HF
            go_wp2_with fail
            go_ret
            exact ⟨by rw [HX.out]; rfl, rfl⟩
          · have h2i : decide ((k : Int) ≤ (l.length : Int) - (m : Int)) = false := decide_eq_false (by omega)
            have HX : Hid (r = false) := Lib.hid (by rw [← HF.out]; simp [h2])
            clear HF
            go_wp2_with fail
            go_ret
            exact ⟨by rw [HX.out]; rfl, rfl⟩
        · have h1i : decide ((k : Int) ≤ (m : Int)) = false := decide_eq_false (by omega)
          have HX : Hid (r = false) := Lib.hid (by rw [← HF.out]; simp [h1])
          clear HF
          go_wp2_with fail
          go_ret
          exact ⟨by rw [HX.out]; rfl, rfl⟩
      · have h0i : decide ((0 : Int) < (k : Int)) = false := decide_eq_false (by omega)
        have HX : Hid (r = false) := Lib.hid (by rw [← HF.out]; simp [h0])
        clear HF
        go_wp2_with fail
        go_ret
        exact ⟨by rw [HX.out]; rfl, rfl⟩
end Go.Proofs.YthfljimgpcignaaGreatDoor

/-
  The laws' Near and Copies, the document's Coord and Place; rows of points that grow.
-/
namespace Go.Proofs.YthfljimgpcignaaGreatDoor
open Go.RowKit Go.Sort

theorem rcoord_is (x : Int) (b : Bool) (w : World) (h : coordB x = b) : Calls Tryz.prog 17 #[.int .i64 x] w fun e w' => e = .returned (.bool b) ∧ w = w' := by
  unfold coordB at h
  by_cases h0 : -1048576 ≤ x
  · by_cases h1 : x ≤ 1048576
    · obtain rfl : b = true := by rw [← h]; simp [h0, h1]
      clear h
      have d0 : decide (-1048576 ≤ x) = true := by simpa using h0
      go_enter Tryz.func17, Tryz.ntmps17
      go_wp2
      go_ret
      exact ⟨rfl, rfl⟩
    · obtain rfl : b = false := by rw [← h]; simp; omega
      clear h
      have d0 : decide (-1048576 ≤ x) = true := by simpa using h0
      have d1 : decide (x ≤ 1048576) = false := by simpa using h1
      go_enter Tryz.func17, Tryz.ntmps17
      go_wp2
      go_ret
      exact ⟨rfl, rfl⟩
  · obtain rfl : b = false := by rw [← h]; simp; omega
    clear h
    have d0 : decide (-1048576 ≤ x) = false := by simpa using h0
    go_enter Tryz.func17, Tryz.ntmps17
    go_wp2
    go_ret
    exact ⟨rfl, rfl⟩
/-- Points that may be. -/
def nearB (l : List (Int × Int)) : Bool := (l.all fun x => coordB x.1 && coordB x.2) && decide (l.length ≤ 120)
theorem nearB_iff (l : List (Int × Int)) : nearB l = true ↔ (∀ x ∈ l, coordB x.1 = true ∧ coordB x.2 = true) ∧ l.length ≤ 120 := by
  simp [nearB]
theorem nearB_no {l : List (Int × Int)} {k : Nat} (hk : k < l.length) (h : coordB l[k].1 = false ∨ coordB l[k].2 = false) : nearB l = false := by
  rw [← Bool.not_eq_true, nearB_iff]
  intro hn
  obtain ⟨a, b⟩ := hn.1 _ (List.getElem_mem hk)
  rcases h with h | h
  · rw [h] at a; cases a
  · rw [h] at b; cases b
theorem coordB_in {x : Int} (h : coordB x = true) : -1048576 ≤ x ∧ x ≤ 1048576 := by simpa [coordB] using h
theorem near_small {l : List (Int × Int)} (h : nearB l = true) : SmallL l ∧ l.length ≤ 120 := by
  obtain ⟨h1, h2⟩ := (nearB_iff l).1 h
  refine ⟨fun x hx => ?_, h2⟩
  have a := coordB_in (h1 x hx).1
  have b := coordB_in (h1 x hx).2
  exact ⟨⟨by omega, by omega⟩, by omega, by omega⟩
end Go.Proofs.YthfljimgpcignaaGreatDoor

/-
  The laws' own beginning: four points in a row each way.
-/
namespace Go.Proofs.YthfljimgpcignaaGreatDoor
open Go.RowKit Go.Sort

abbrev kpC : Array Value := #[.int .i64 3, .int .i64 0, .int .i64 0, .int .i64 4, .int .i64 3, .int .i64 1, .int .i64 (-1), .int .i64 (-1)]
def KP : List (Int × Int) := [(3, 0), (0, 4), (3, 1), (-1, -1)]
theorem kp_prs {w : World} {g : Nat} (h : Blk w g kpC 44) : Prs w (.slice (some ⟨g, 0, none⟩) 4 4) KP := by
  refine Or.inr ⟨by decide, g, 0, 4, by decide, by omega, rfl, fun i hi => ?_⟩
  rw [Nat.zero_add]
  have hi' : i < 4 := hi
  match i, hi' with
  | 0, _ => exact ⟨h.cell 0 rfl, h.cell 1 rfl⟩
  | 1, _ => exact ⟨h.cell 2 rfl, h.cell 3 rfl⟩
  | 2, _ => exact ⟨h.cell 4 rfl, h.cell 5 rfl⟩
  | 3, _ => exact ⟨h.cell 6 rfl, h.cell 7 rfl⟩
theorem kp_small : SmallL KP := (near_small (by decide)).1
instance foreDec (l : List (Int × Int)) (d : Int) (a b : Nat) : Decidable (Fore l d a b) := by unfold Fore; infer_instance
theorem kp0 {o : List Nat} (h : OrdL KP 0 o) : o = [3, 1, 0, 2] := h.uniq (m := KP) (e := 0) ⟨by decide, by decide⟩ rfl fun _ _ _ _ h => h
theorem kp3 {o : List Nat} (h : OrdL KP 3 o) : o = [1, 3, 2, 0] := h.uniq (m := KP) (e := 3) ⟨by decide, by decide⟩ rfl fun _ _ _ _ h => h
end Go.Proofs.YthfljimgpcignaaGreatDoor

/-
  Rows of points that grow, in regions that draw their order.
-/
namespace Go.Proofs.YthfljimgpcignaaGreatDoor
open Go.RowKit Go.Sort

/-- It stays where memory only grows. -/
def Stab (A : World → Prop) : Prop := ∀ w w', A w → Below w.heap.size w w' → A w'
structure GG.ApS (j : Nat) (A : World → Prop) (W : World) (dn : Nat → Bool) (s : Bool) (w : World) : Prop where
  here : dn j = s
  r : s = false → A w
  b : Below W.heap.size W w
section
variable {j : Nat} {A : World → Prop} {W : World} {dn : Nat → Bool} {s : Bool} {w w' : World}
theorem GG.ApS.step (h : GG.ApS j A W dn s w) {i : Nat} (hi : j ≠ i) : GG.ApS j A W (GG.doneG dn i) s w :=
  ⟨by show (if j = i then true else dn j) = s; rw [if_neg hi]; exact h.here, h.r, h.b⟩
theorem GG.ApS.still {i : Nat} (hi : j ≠ i) : GG.Still (GG.ApS j A W) GG.RlA i := ⟨fun _ _ _ h => h.step hi, fun _ _ => ⟨id, fun _ => Below.refl _ _⟩⟩
theorem GG.ApS.old (h : GG.ApS j A W dn s w) (hA : Stab A) (hb : Below w.heap.size w w') : GG.ApS j A W dn s w' := ⟨h.here, fun e => hA _ _ (h.r e) hb, bOn6 h.b hb⟩
end
def GG.LitP (cs : Array Value) (v : Value) (s : Bool) (w : World) : Prop := s = false → ∃ g, v = .slice (some ⟨g, 0, none⟩) 1 1 ∧ Blk w g cs 44
theorem GG.LitP.st (cs : Array Value) (v : Value) (s : Bool) (w : World) (s' : Bool) (w' : World) (h : GG.LitP cs v s w) (hr : GG.RlA s w s' w') : GG.LitP cs v s' w' := by
  intro e
  cases s with
  | true => rw [hr.1 rfl] at e; cases e
  | false =>
    obtain ⟨g, e1, e2⟩ := h rfl
    exact ⟨g, e1, e2.keep (hr.2 e.symm)⟩
def GG.ApT (B : Value → World → Prop) (v : Value) (s : Bool) (w : World) : Prop := s = true ∧ (∃ q n c, v = .slice q n c) ∧ B v w
theorem GG.ApT.st {B : Value → World → Prop} (hB : ∀ v, Stab (B v)) (v : Value) (s : Bool) (w : World) (s' : Bool) (w' : World) (h : GG.ApT B v s w) (hr : GG.RlA s w s' w') : GG.ApT B v s' w' :=
  ⟨hr.1 h.1, h.2.1, hB v _ _ h.2.2 (hr.2 (by rw [h.1, hr.1 h.1]))⟩
/-- Two rows of points of one's own, apart. -/
structure PT (w0 : World) (l1 : List (Int × Int)) (v1 : Value) (l2 : List (Int × Int)) (v2 : Value) (w : World) : Prop where
  r1 : w.ownsRow w0.heap.size 44 2 v1 l1.length (flatP l1)
  r2 : w.ownsRow w0.heap.size 44 2 v2 l2.length (flatP l2)
  dis : ∀ g, v1.ownBlock = some g → v2.ownBlock ≠ some g
  b : Below w0.heap.size w0 w
section
variable {w0 w w' : World} {l1 l2 : List (Int × Int)} {v1 v2 : Value}
theorem PT.stab : Stab (PT w0 l1 v1 l2 v2) := fun _ _ h hb => ⟨own_below h.r1 hb, own_below h.r2 hb, h.dis, bOn6 h.b hb⟩
theorem PT.symm (h : PT w0 l1 v1 l2 v2 w) : PT w0 l2 v2 l1 v1 w := ⟨h.r2, h.r1, fun g h2 h1 => h.dis g h1 h2, h.b⟩
theorem PT.nil : PT w0 [] (.slice none 0 0) [] (.slice none 0 0) w0 := ⟨World.ownsRow_nil _ _ _ _, World.ownsRow_nil _ _ _ _, fun g h => by simp [Value.ownBlock] at h, Below.refl _ _⟩
theorem PT.app (h : PT w0 l1 v1 l2 v2 w) {x y : Int} {g : Nat} (hg : Blk w g #[.int .i64 x, .int .i64 y] 44) (hl : l1.length ≤ 100000) :
    ∃ q n c w', (Builtin.append_ #[22, 22] 22 #[v1, .slice (some ⟨g, 0, none⟩) 1 1]).run Tryz.prog w = .ok (.slice q n c) w' ∧ PT w0 (l1 ++ [(x, y)]) (.slice q n c) l2 v2 w' ∧ w.heap.size ≤ w'.heap.size := by
  obtain ⟨i0, hi, hz0, hz1, hz2⟩ := info_parts infoPair
  have hz9 : w0.heap.size ≤ w.heap.size := h.b.size
  obtain ⟨v', w', hr, o1, o2, -, o4⟩ := run_append_own_at (P := Tryz.prog) w w0.heap.size 22 22 44 i0 (.agg #[.int .i64 0, .int .i64 0]) 2 16 Tryz.underlying22 hi hz0 hz1 hz2 rfl (by decide) v1 l1.length (flatP l1) h.r1 ⟨g, 0, none⟩ 1 1 (flatP [(x, y)]) rfl
    (fun j u hj => by
      rw [add0', hg.cell j (by rw [List.getElem?_toArray]; exact hj)]) (by intro u hu; simp [flatP] at hu; rcases hu with rfl | rfl <;> rfl) (by unfold maxLen; omega) (by omega) hz9
  have hd : v'.ownBlock ≠ v2.ownBlock ∨ v2.ownBlock = none := by
    cases e2 : v2.ownBlock with
    | none => exact Or.inr rfl
    | some g2 =>
      refine Or.inl fun e => ?_
      rcases o4 with o4 | o4
      · rw [o4] at e
        exact h.dis _ e e2
      · rw [o4] at e
        injection e with e
        have := (h.r2.lt _ e2).2
        omega
  obtain ⟨q, c, rfl⟩ := own_shape o1
  refine ⟨q, _, c, w', hr, ⟨?_, h.r2.kept o2 ?_, fun g1 e1 e2 => ?_, h.b.trans ((Below.refl _ _).grown o2 hz9 (fun g' hg' => own_ge h.r1 g' (by simpa using hg')))⟩, o2.size⟩
  · rw [List.length_append, flatP_app]
    exact o1
  · cases e2 : v2.ownBlock with
    | none => exact Or.inl rfl
    | some g2 => exact Or.inr (fun e => h.dis g2 e.symm e2)
  · rcases hd with hd | hd
    · exact hd (e1.trans e2.symm)
    · rw [hd] at e2; cases e2
end
end Go.Proofs.YthfljimgpcignaaGreatDoor

/-
  What the laws of points say of rows that are turned.
-/
namespace Go.Proofs.YthfljimgpcignaaGreatDoor
open Go.RowKit Go.Sort

def mirL (l : List (Int × Int)) : List (Int × Int) := l.map fun x => (x.2, x.1)
def minL (l : List (Int × Int)) : List (Int × Int) := l.map fun x => (0 - x.1, 0 - x.2)
theorem mirL_len (l : List (Int × Int)) : (mirL l).length = l.length := by simp [mirL]
theorem minL_len (l : List (Int × Int)) : (minL l).length = l.length := by simp [minL]
theorem mirL_snoc {l : List (Int × Int)} {k : Nat} {x y : Int} (hk : k < l.length) (h : l[k] = (x, y)) : mirL (l.take (k + 1)) = mirL (l.take k) ++ [(y, x)] := by
  rw [List.take_succ_eq_append_getElem hk, h]
  simp [mirL]
theorem minL_snoc {l : List (Int × Int)} {k : Nat} {x y : Int} (hk : k < l.length) (h : l[k] = (x, y)) : minL (l.take (k + 1)) = minL (l.take k) ++ [(0 - x, 0 - y)] := by
  rw [List.take_succ_eq_append_getElem hk, h]
  simp [minL]
theorem mirL_small {l : List (Int × Int)} (h : SmallL l) : SmallL (mirL l) := fun x hx => by
  obtain ⟨y, hy, rfl⟩ := List.mem_map.1 hx
  obtain ⟨a, b⟩ := h y hy
  exact ⟨b, a⟩
theorem minL_small {l : List (Int × Int)} (h : SmallL l) : SmallL (minL l) := fun x hx => by
  obtain ⟨y, hy, rfl⟩ := List.mem_map.1 hx
  obtain ⟨a, b⟩ := h y hy
  exact ⟨⟨by show -1099511627776 ≤ 0 - y.1; omega, by show 0 - y.1 ≤ 1099511627776; omega⟩, by show -1099511627776 ≤ 0 - y.2; omega, by show 0 - y.2 ≤ 1099511627776; omega⟩
/-- Order, of n points. -/
def OrdN (w : World) (l : List (Int × Int)) (n : Nat) (d : Int) (e : Ending) (w' : World) : Prop :=
  ∃ g o, e = .returned (.slice (some ⟨g, 0, none⟩) n n) ∧ OrdL l d o ∧ I64s w' (.slice (some ⟨g, 0, none⟩) n n) (zN o) ∧ Below w.heap.size w w'
theorem order_at {w : World} {pv : Value} {l : List (Int × Int)} {d : Int} {n : Nat} (h : Prs w pv l) (hs : SmallL l) (hl : l.length = n) (hn : n ≤ 10000) :
    Calls Tryz.prog 33 #[pv, .int .i64 d] w (OrdN w l n d) := by
  subst hl
  refine (order_is h hs hn).mono ?_
  rintro e w' ⟨g, o, rfl, ho, hk, -, hb⟩
  exact ⟨g, o, rfl, ho, i64s_of_blk hk (by rw [zN_len, ho.len]) (by omega), hb⟩
theorem zN_at {o : List Nat} {i A : Nat} (h : o[i]? = some A) : ∃ h' : i < (zN o).length, (zN o)[i] = (A : Int) := by
  obtain ⟨h1, h2⟩ := List.getElem?_eq_some_iff.1 h
  exact ⟨by rw [zN_len]; exact h1, by simp [zN, h2]⟩
theorem I64s.atZ {w : World} {q : Option Addr} {n c : Nat} {o : List Nat} (h : I64s w (.slice q n c) (zN o)) {i A : Nat} (hi : o[i]? = some A) : ∃ b s, q = some ⟨b, s, none⟩ ∧ w.cell? ⟨b, s + i, none⟩ = some (.int .i64 (A : Int)) ∧ b < w.heap.size := by
  obtain ⟨h1, h2⟩ := zN_at hi
  obtain ⟨b, s, e, hc⟩ := h.at h1
  rw [h2] at hc
  exact ⟨b, s, e, hc, World.block_lt_of_cell? _ _ hc⟩
theorem Prs.atP {w : World} {q : Option Addr} {n c : Nat} {l : List (Int × Int)} (h : Prs w (.slice q n c) l) {i : Nat} {x y : Int} (hi : l[i]? = some (x, y)) : ∃ b s, q = some ⟨b, s, none⟩ ∧ w.cell? ⟨b, s + i * 2, none⟩ = some (.int .i64 x) ∧ w.cell? ⟨b, s + i * 2 + 1, none⟩ = some (.int .i64 y) ∧ b < w.heap.size := by
  obtain ⟨h1, h2⟩ := List.getElem?_eq_some_iff.1 hi
  obtain ⟨b, s, e, c0, c1⟩ := h.at h1
  rw [h2] at c0 c1
  exact ⟨b, s, e, c0, c1, World.block_lt_of_cell? _ _ c0⟩
theorem kAt_of {l : List (Int × Int)} {i : Nat} {x y : Int} (h : l[i]? = some (x, y)) (d : Int) : kAt l d i = keyL (x, y) d := by
  unfold kAt
  rw [List.getD_eq_getElem?_getD, h]
  rfl
theorem OrdL.some {l : List (Int × Int)} {d : Int} {o : List Nat} (h : OrdL l d o) {i : Nat} (hi : i < l.length) : ∃ A, o[i]? = some A ∧ A < l.length := by
  have hl := h.len
  exact ⟨o[i], List.getElem?_eq_getElem (by omega), h.mem (List.getElem_mem _)⟩
/-- Two keys, one from each end. -/
theorem minus_keys {l : List (Int × Int)} {d : Int} {o p : List Nat} (h : OrdL l d o) (h' : OrdL (minL l) d p) {i A B : Nat} (hi : i < l.length) (ha : o[i]? = Option.some A) (hb : p[l.length - 1 - i]? = Option.some B) : kAt l d A = 0 - kAt (minL l) d B := by
  have := ord_minus h h' rfl hi
  rw [List.getD_eq_getElem?_getD, List.getD_eq_getElem?_getD, ha, hb] at this
  exact this
theorem key_small {x y d r : Int} (h : SmallP (x, y)) (hr : keyL (x, y) d = r) : -4398046511104 ≤ r ∧ r ≤ 4398046511104 := by
  obtain ⟨⟨a, b⟩, c, e⟩ := h
  subst hr
  unfold keyL
  simp only at *
  repeat' split
  all_goals omega
end Go.Proofs.YthfljimgpcignaaGreatDoor

/-
  Shares of a row that falls: its ends, its half; sides that mark them.
-/
namespace Go.Proofs.YthfljimgpcignaaGreatDoor
open Go.RowKit Go.Sort

/-- N - 1, N - 2 .. -/
def dn (N k : Nat) : List Nat := (List.range k).map fun i => N - 1 - i
theorem dn_len (N k : Nat) : (dn N k).length = k := by simp [dn]
theorem dn_snoc (N k : Nat) : dn N (k + 1) = dn N k ++ [N - 1 - k] := by simp [dn, List.range_succ]
theorem dn_at {N k i : Nat} (h : i < k) : (dn N k)[i]? = some (N - 1 - i) := by simp [dn, h]
/-- The row so far, of one's own. -/
structure DnM (w : World) (N k : Nat) (v : Value) (wr : World) : Prop where
  r : wr.ownsRow w.heap.size 3 1 v k ((zN (dn N k)).map (Value.int .i64))
  b : Below w.heap.size w wr
theorem DnM.app {w wr wr' : World} {N k : Nat} {v : Value} (h : DnM w N k v wr) {J g : Nat} (hJ : N - 1 - k = J) (hb : Below wr.heap.size wr wr') (hg : Blk wr' g #[.int .i64 (J : Int)] 3) (hk : k ≤ 1000) :
    ∃ q c w', (Builtin.append_ #[39, 39] 39 #[v, .slice (some ⟨g, 0, none⟩) 1 1]).run Tryz.prog wr' = .ok (.slice q (k + 1) c) w' ∧ DnM w N (k + 1) (.slice q (k + 1) c) w' := by
  subst hJ
  have hs := h.b.size
  have h1 := own_below h.r hb
  obtain ⟨q, c, w', hr, h2, h3⟩ := app1 Tryz.underlying39 infoInt rfl rfl (by decide) h1 hg (by omega) (Nat.le_trans hs hb.size)
  refine ⟨q, c, w', hr, ?_, (bOn6 h.b hb).trans ((Below.refl _ _).grown h3 (Nat.le_trans hs hb.size) (fun g hg => own_ge h1 g (by simpa using hg)))⟩
  rw [dn_snoc]
  have e : (zN (dn N k ++ [N - 1 - k])).map (Value.int .i64) = (zN (dn N k)).map (Value.int .i64) ++ [.int .i64 ((N - 1 - k : Nat) : Int)] := by simp [zN]
  rw [e]
  exact h2
def DnRel (w : World) (N : Nat) (v iv : Value) (wr : World) : Prop := ∃ k : Nat, k ≤ N ∧ iv = .int .i64 k ∧ DnM w N k v wr

/-! ### the ends and the half -/
theorem zN_dn_take {N k : Nat} (h : k ≤ N) : (zN (dn N N)).take k = zN (dn N k) := by
  simp [zN, dn, ← List.map_take, List.take_range, Nat.min_eq_left h]
theorem dn_drop {N E : Nat} (h : E ≤ N) : (dn N N).drop (N - E) = (List.range E).map fun i => E - 1 - i := by
  refine List.ext_getElem (by simp [dn]; omega) fun i h1 h2 => ?_
  have hi : i < E := by simpa using h2
  simp [dn]
  omega
theorem zN_dn_drop {N E : Nat} (h : E ≤ N) : (zN (dn N N)).drop (N - E) = zN (dn E E) := by
  unfold zN
  rw [← List.map_drop, dn_drop h]
  rfl
theorem dn_mem {N k x : Nat} (h : x ∈ dn N k) : ∃ i, i < k ∧ x = N - 1 - i := by
  obtain ⟨i, hi, rfl⟩ := List.mem_map.1 h
  exact ⟨i, by simpa using hi, rfl⟩
theorem ends_apart {N E i : Nat} (h : 2 * E ≤ N) (hi : i < E) : placeL (zN (dn E E)) ((N - 1 - i : Nat) : Int) < 0 := by
  refine Int.not_le.1 fun hn => ?_
  have := (placeL_mem _ _).1 hn
  obtain ⟨y, hy, e⟩ := List.mem_map.1 this
  have e' : y = N - 1 - i := by exact_mod_cast e
  obtain ⟨j, hj, e2⟩ := dn_mem hy
  omega
/-! ### how many are marked -/
theorem setB_cnt_lo {S : List Bool} {N E : Nat} (hl : S.length = N) (hE : E ≤ N) (h : ∀ j, N - E ≤ j → j < N → S[j]? = some true) : E ≤ cntT S := by
  have e : S.drop (N - E) = List.replicate E true := List.ext_getElem? fun i => by
    rw [List.getElem?_drop, List.getElem?_replicate]
    by_cases hi : i < E
    · rw [if_pos hi]
      exact h _ (by omega) (by omega)
    · rw [if_neg hi, List.getElem?_eq_none (by omega)]
  rw [← List.take_append_drop (N - E) S]
  unfold cntT
  rw [List.countP_append, e, List.countP_replicate]
  simp
theorem setB_cnt_hi {S : List Bool} {N E : Nat} (hl : S.length = N) (_ : E ≤ N) (h : ∀ j, j < E → S[j]? = some false) : cntT S ≤ N - E := by
  have e : S.take E = List.replicate E false := List.ext_getElem? fun i => by
    rw [List.getElem?_take, List.getElem?_replicate]
    by_cases hi : i < E
    · rw [if_pos hi, if_pos hi]
      exact h _ hi
    · rw [if_neg hi, if_neg hi]
  have h1 : cntT (S.drop E) ≤ N - E := by
    have := cntT_le (S.drop E)
    rwa [List.length_drop, hl] at this
  have h2 : cntT S = cntT (S.take E) + cntT (S.drop E) := by
    rw [← List.take_append_drop E S]
    unfold cntT
    rw [List.countP_append, List.take_append_drop]
  rw [h2, e]
  unfold cntT at h1 ⊢
  rw [List.countP_replicate]
  simpa using h1
theorem fair_of {S : List Bool} {N X Y : Nat} (hN : 2 ≤ N) (hl : S.length = N) (hX : endN N ≤ X) (hY : endN N ≤ Y) (hXN : X ≤ N) (hYN : Y ≤ N) (h1 : ∀ j, N - X ≤ j → j < N → S[j]? = some true) (h2 : ∀ j, j < Y → S[j]? = some false) : fairL S = true := by
  have a := setB_cnt_lo hl hXN h1
  have b := setB_cnt_hi hl hYN h2
  unfold fairL
  rw [hl]
  have h0 : 0 < endN N := by unfold endN; split <;> omega
  simp only [Bool.and_eq_true, decide_eq_true_eq]
  omega
theorem unfair_small {S : List Bool} {N : Nat} (hN : N < 2) (hl : S.length = N) : fairL S = false := by
  unfold fairL
  rw [hl, show endN N = 0 from by unfold endN; rw [if_pos hN]]
  rfl
/-- The last k are marked. -/
structure HalfL (N k : Nat) (S : List Bool) : Prop where
  len : S.length = N
  hi : ∀ j, N - k ≤ j → j < N → S[j]? = some true
  lo : ∀ j, j < N - k → S[j]? = some false
theorem HalfL.start (N : Nat) : HalfL N 0 (List.replicate N false) := ⟨by simp, fun j h1 h2 => by omega, fun j h => by rw [List.getElem?_replicate, if_pos (by omega)]⟩
theorem HalfL.step {N k : Nat} {S : List Bool} (h : HalfL N k S) (hk : k < N) : HalfL N (k + 1) (S.set (N - 1 - k) true) := by
  have hl := h.len
  refine ⟨by rw [List.length_set]; exact h.len, fun j h1 h2 => ?_, fun j h1 => ?_⟩
  · by_cases e : N - 1 - k = j
    · rw [e, List.getElem?_set_self (by omega)]
    · rw [List.getElem?_set_ne e]
      exact h.hi j (by omega) h2
  · rw [List.getElem?_set_ne (by omega)]
    exact h.lo j (by omega)
/-- The last k are marked, and k below E are not. -/
structure SideL (N E k : Nat) (S : List Bool) : Prop where
  len : S.length = N
  hi : ∀ j, N - k ≤ j → j < N → S[j]? = some true
  lo : ∀ j, E - k ≤ j → j < E → S[j]? = some false
theorem SideL.start {N E : Nat} {S : List Bool} (h : S.length = N) : SideL N E 0 S := ⟨h, fun j h1 h2 => by omega, fun j h1 h2 => by omega⟩
theorem SideL.step {N E k : Nat} {S : List Bool} (h : SideL N E k S) (hk : k < E) (hE : 2 * E ≤ N) : SideL N E (k + 1) ((S.set (N - 1 - k) true).set (E - 1 - k) false) := by
  have hl := h.len
  refine ⟨by rw [List.length_set, List.length_set]; exact h.len, fun j h1 h2 => ?_, fun j h1 h2 => ?_⟩
  · rw [List.getElem?_set_ne (by omega)]
    by_cases e : N - 1 - k = j
    · rw [e, List.getElem?_set_self (by omega)]
    · rw [List.getElem?_set_ne e]
      exact h.hi j (by omega) h2
  · by_cases e : E - 1 - k = j
    · rw [e, List.getElem?_set_self (by rw [List.length_set]; omega)]
    · rw [List.getElem?_set_ne e, List.getElem?_set_ne (by omega)]
      exact h.lo j (by omega) h2
theorem HalfL.fair {N H : Nat} {S : List Bool} (h : HalfL N H S) (hN : 2 ≤ N) (hH : (N + 1) / 2 = H) : fairL S = true :=
  fair_of hN h.len (X := H) (Y := N - H) (by unfold endN; split <;> omega) (by unfold endN; split <;> omega) (by omega) (by omega) h.hi (fun j hj => h.lo j hj)
theorem SideL.fair {N E : Nat} {S : List Bool} (h : SideL N E E S) (hN : 2 ≤ N) (hE : endN N = E) : fairL S = true :=
  have h2 := (endN_le N).1
  fair_of hN h.len (X := E) (Y := E) (by omega) (by omega) (by omega) (by omega) h.hi (fun j hj => h.lo j (by omega) hj)
/-! ### both sides in memory -/
/-- Both sides' blocks; what lay ahead of them is as it was. -/
structure TwoB (W : World) (gs gh : Nat) (S H : List Bool) (wr : World) : Prop where
  s : Blk wr gs (bolB S) 4
  h : Blk wr gh (bolB H) 4
  ne : gs ≠ gh
  k : Keep (fun b => b < gs) W wr
  gh : gs ≤ gh
section
variable {W wr wr' : World} {gs gh : Nat} {S H : List Bool}
theorem TwoB.setS (h : TwoB W gs gh S H wr) (i : Nat) (x : Bool) : TwoB W gs gh (S.set i x) H (wr.setCell ⟨gs, i, none⟩ (.bool x)) := by
  refine ⟨?_, h.h.other _ _ h.ne.symm, h.ne, h.k.setCell (fun hb => by omega) _ _, h.gh⟩
  have := h.s.set i (.bool x)
  rwa [bolB_set] at this
theorem TwoB.setH (h : TwoB W gs gh S H wr) (i : Nat) (x : Bool) : TwoB W gs gh S (H.set i x) (wr.setCell ⟨gh, i, none⟩ (.bool x)) := by
  refine ⟨h.s.other _ _ h.ne, ?_, h.ne, h.k.setCell (fun hb => by have := h.gh; omega) _ _, h.gh⟩
  have := h.h.set i (.bool x)
  rwa [bolB_set] at this
theorem TwoB.old (h : TwoB W gs gh S H wr) (hb : Below wr.heap.size wr wr') : TwoB W gs gh S H wr' := ⟨h.s.keep hb, h.h.keep hb, h.ne, h.k.trans (Keep.of hb), h.gh⟩
theorem TwoB.cellS (h : TwoB W gs gh S H wr) {i : Nat} (hi : i < S.length) : (∃ u, wr.cell? ⟨gs, i, none⟩ = some u) ∧ wr.frozen? ⟨gs, i, none⟩ = false ∧ gs < wr.heap.size := ⟨⟨_, h.s.cell i (bolB_at hi)⟩, h.s.free i, h.s.lt⟩
theorem TwoB.cellH (h : TwoB W gs gh S H wr) {i : Nat} (hi : i < H.length) : (∃ u, wr.cell? ⟨gh, i, none⟩ = some u) ∧ wr.frozen? ⟨gh, i, none⟩ = false ∧ gh < wr.heap.size := ⟨⟨_, h.h.cell i (bolB_at hi)⟩, h.h.free i, h.h.lt⟩
end
def Rel2 (W : World) (gs gh N : Nat) (iv : Value) (wr : World) : Prop := ∃ (k : Nat) (S : List Bool), k ≤ N ∧ iv = .int .i64 k ∧ S.length = N ∧ TwoB W gs gh S (List.replicate N false) wr
def Rel3 (W : World) (gs gh N M : Nat) (S : List Bool) (iv : Value) (wr : World) : Prop := ∃ (k : Nat) (H : List Bool), k ≤ M ∧ iv = .int .i64 k ∧ HalfL N k H ∧ TwoB W gs gh S H wr
def Rel4 (W : World) (gs gh N E : Nat) (H : List Bool) (iv : Value) (wr : World) : Prop := ∃ (k : Nat) (S : List Bool), k ≤ E ∧ iv = .int .i64 k ∧ SideL N E k S ∧ TwoB W gs gh S H wr
end Go.Proofs.YthfljimgpcignaaGreatDoor
