/-
  Ends, Half, Fair of the program; Near of the laws; the document's Place, Coord.
-/
import Derived.Test.YtleheaffipokfaaLnC
import Derived.Test.YtleheaffipokfaaNetM
import Derived.Test.YtleheaffipokfaaRInts
import Derived.ArgAppend
namespace Go.Proofs.Ytleheaffipokfaa
open Go.RowKit Go.Sort

/-- A row that was cut at its beginning. -/
def movedS (p : Option Addr) (c a : Nat) : Option Addr := if c = a then p else p.map fun q => q.add a
theorem sl_from {p : Option Addr} {c a n x y z : Nat} (h1 : x = n) (h2 : y = c - a) (h3 : z = a) : Value.slice (if c = z then p else Option.map (fun q => q.add z) p) x y = .slice (movedS p c a) n (c - a) := by
  subst h1 h2 h3
  rfl
theorem add0s (xb xo j : Nat) : (⟨xb, xo, none⟩ : Addr).add j = ⟨xb, xo + j, none⟩ := by unfold Addr.add; split <;> simp_all
theorem I64s.dropM {w : World} {q : Option Addr} {c : Nat} {l : List Int} (h : I64s w (.slice q l.length c) l) {a : Nat} (ha : a ≤ l.length) : I64s w (.slice (movedS q c a) (l.length - a) (c - a)) (l.drop a) := by
  rcases h with ⟨rfl, p, c', e, hp⟩ | ⟨hl, b, o, c', h1, h2, e, hc⟩
  · injection e with e1 e2 e3
    subst e1 e3
    obtain rfl : a = 0 := by simpa using ha
    refine Or.inl ⟨rfl, movedS q c 0, c, rfl, fun h => ?_⟩
    unfold movedS at h
    split at h
    · exact hp h
    · exact hp (by cases q with | none => rfl | some x => simp at h)
  · injection e with e1 e2 e3
    subst e1 e3
    by_cases hca : c = a
    · subst hca
      have h0 : l.length - c = 0 := by omega
      rw [h0]
      exact Or.inl ⟨List.drop_eq_nil_of_le (by omega), _, _, rfl, fun h => by unfold movedS at h; rw [if_pos rfl] at h; cases h⟩
    · refine Or.inr ⟨by rw [List.length_drop]; omega, b, o + a, c - a, by rw [List.length_drop]; omega, by omega, ?_, fun i hi => ?_⟩
      · unfold movedS
        rw [if_neg hca, Option.map_some, add0s, List.length_drop]
      · rw [List.getElem_drop, Nat.add_assoc]
        rw [List.length_drop] at hi
        exact hc (a + i) (by omega)
theorem I64s.takeC {w : World} {q : Option Addr} {c : Nat} {l : List Int} (h : I64s w (.slice q l.length c) l) {k : Nat} (hk : k ≤ l.length) : I64s w (.slice q k c) (l.take k) := by
  rcases h with ⟨rfl, p, c', e, hp⟩ | ⟨hl, b, o, c', h1, h2, e, hc⟩
  · injection e with e1 e2 e3
    subst e1 e3
    obtain rfl : k = 0 := by simpa using hk
    exact Or.inl ⟨rfl, q, c, rfl, hp⟩
  · injection e with e1 e2 e3
    subst e1 e3
    refine Or.inr ⟨by rw [List.length_take]; omega, b, o, c, by rw [List.length_take]; omega, h2, by rw [List.length_take, Nat.min_eq_left hk], fun i hi => ?_⟩
    rw [List.length_take] at hi
    rw [List.getElem_take]
    exact hc i (by omega)
theorem I64s.capN {w : World} {q : Option Addr} {n c : Nat} {l : List Int} (h : I64s w (.slice q n c) l) : n = l.length ∧ (q = none → c = 0 ∧ n = 0) ∧ (n ≤ c ∨ l = []) ∧ l.length ≤ 9223372036854775807 := by
  rcases h with ⟨rfl, p, c', e, hp⟩ | ⟨hl, b, o, c', h1, h2, e, hc⟩
  · injection e with e1 e2 e3
    subst e1 e2 e3
    exact ⟨rfl, fun h => ⟨hp h, rfl⟩, Or.inr rfl, by simp⟩
  · injection e with e1 e2 e3
    subst e1 e2 e3
    exact ⟨rfl, fun h => (by cases h), Or.inl h1, hl⟩
/-- A row copied behind nil. -/
theorem copyNil (W : World) (v : Value) (l : List Int) (hv : I64s W v l) (hs : l.length ≤ 100000) :
    ∃ q c w', (Builtin.append_ #[26, 26] 26 #[.slice none 0 0, v]).run Try.prog W = .ok (.slice q l.length c) w' ∧ I64s w' (.slice q l.length c) l ∧ Below W.heap.size W w' := by
  obtain ⟨i0, hi, hz0, hz1, hz2⟩ := info_parts infoInt
  have ht : Try.prog.underlying 26 = some (.slice 3) := Try.underlying26
  have hnil : W.ownsRow W.heap.size 3 1 (.slice none 0 0) 0 [] := ⟨rfl, Or.inl ⟨rfl, rfl⟩⟩
  have key : ∀ (ad : Addr) (c : Nat), (∀ j u, (l.map (Value.int .i64))[j]? = some u → W.cell? (ad.add j) = some u) → ∃ q c0 w', (Builtin.append_ #[26, 26] 26 #[.slice none 0 0, .slice (some ad) l.length c]).run Try.prog W = .ok (.slice q l.length c0) w' ∧ I64s w' (.slice q l.length c0) l ∧ Below W.heap.size W w' := fun ad c hn => by
    obtain ⟨v', w', hr, h1, h2, -⟩ := run_append_own (P := Try.prog) W W.heap.size 26 26 3 i0 (.int .i64 0) 1 8 ht hi hz0 hz1 hz2 rfl (by decide) (.slice none 0 0) 0 [] hnil ad l.length c (l.map (Value.int .i64)) (by simp) hn (by intro u hu; obtain ⟨x, -, rfl⟩ := List.mem_map.1 hu; rfl) (by simp [maxLen]; omega) (by omega) (Nat.le_refl _)
    rw [List.nil_append, Nat.zero_add] at h1
    obtain ⟨q, c0, rfl⟩ := own_shape h1
    exact ⟨q, c0, w', hr, ints_of_owns h1 (by omega), (Below.refl _ _).grown h2 (Nat.le_refl _) (by intro k hk; cases hk)⟩
  rcases hv with ⟨rfl, p, c, rfl, hpc⟩ | ⟨hl, b, o, c, -, -, rfl, hc⟩
  · cases p with
    | none =>
      refine ⟨none, 0, W, ?_, Or.inl ⟨rfl, _, _, rfl, fun _ => rfl⟩, Below.refl _ _⟩
      simp [Builtin.append_, run_underlying ht, sizeOf, typeInfo, hi, Builtin.lenOf, Builtin.firstCells]
    | some ad => exact key ad c (by intro j u h; simp at h)
  · refine key _ _ fun j u hu => ?_
    rw [add0s]
    obtain ⟨hj, hu⟩ := List.getElem?_eq_some_iff.1 hu
    have hj' : j < l.length := by simpa using hj
    rw [hc j hj', ← hu, List.getElem_map]
def FirstPost (w : World) (l : List Int) (e : Ending) (w' : World) : Prop := ∃ q c, e = .returned (.slice q l.length c) ∧ I64s w' (.slice q l.length c) l ∧ Below w.heap.size w w'
set_option maxHeartbeats 2000000 in
theorem first_is {w : World} {v : Value} {l : List Int} {k : Nat} (h : I64s w v l) (hk : k ≤ l.length) (hl : l.length ≤ 100000) :
    Calls Try.prog 22 #[v, .int .i64 (k : Int)] w (FirstPost w (l.take k)) := by
  obtain ⟨q, c, rfl⟩ := h.shape
  obtain ⟨-, -, hc, -⟩ := h.capN
  have hck : k ≤ c := by
    rcases hc with hc | rfl
    · omega
    · simp at hk; omega
  have hki : (k : Int) ≤ (c : Int) := by omega
  obtain ⟨q', c', w', hr, hv, hb⟩ := copyNil w _ _ (h.takeC hk) (by rw [List.length_take]; omega)
  have HP : Hid (FirstPost w (l.take k) (.returned (.slice q' (l.take k).length c')) w') := Lib.hid ⟨q', c', rfl, hv, hb⟩
  rw [show (l.take k).length = k from by rw [List.length_take]; omega] at hr HP
  have HR := Lib.hid hr
  clear hr hv hb h hc
  go_enter Try.func22, Try.ntmps22
  go_wp2_with (at_builtin; refine wpList_append_run (by rfl) _ _ _ rfl _ _ _ rfl rfl HR.out ?_)
  go_ret
  exact HP.out
theorem end_is (n : Nat) (w : World) (hn : n ≤ 1000000) {k : Nat} (hk : endN n = k) : Calls Try.prog 21 #[.int .i64 (n : Int)] w fun e w' => e = .returned (.int .i64 (k : Int)) ∧ w = w' := by
  unfold endN at hk
  by_cases h2 : n < 2
  · obtain rfl : k = 0 := by rw [← hk, if_pos h2]
    have h2i : (n : Int) < 2 := by omega
    clear hk h2
    go_enter Try.func21, Try.ntmps21
    go_wp2_with fail
    go_ret
    exact ⟨rfl, rfl⟩
  · rw [if_neg h2] at hk
    have h2i : ¬ (n : Int) < 2 := by omega
    have h3 : (n : Int) + 3 = ((n + 3 : Nat) : Int) := by omega
    have w1 : IntKind.i64.wrap ((n : Int) + 3) = ((n + 3 : Nat) : Int) := by rw [h3]; exact IntWalk.i64_in _ (by omega)
    obtain ⟨Z, hZ⟩ : ∃ Z : Int, ((n + 3 : Nat) : Int) = Z := ⟨_, rfl⟩
    rw [hZ] at w1
    have e1 : Z.tdiv 4 = (k : Int) := by rw [← hZ, ← hk]; rfl
    have e2 : IntKind.i64.wrap (Z.tdiv 4) = (k : Int) := by rw [e1]; exact IntWalk.i64_in _ (by omega)
    have e3 : Z / 4 = (k : Int) := by omega
    have e4 : IntKind.i64.wrap (k : Int) = (k : Int) := IntWalk.i64_in _ (by omega)
    clear hZ h3 hk h2
    go_enter Try.func21, Try.ntmps21
    go_wp2_with fail
    go_ret
    exact ⟨rfl, rfl⟩
theorem endN_le (n : Nat) : endN n ≤ n ∧ 2 * endN n ≤ n := by unfold endN; split <;> omega
def RowV (l : List Int) (v : Value) (_ : Unit) (w : World) : Prop := ∃ q c, v = .slice q l.length c ∧ I64s w (.slice q l.length c) l
theorem RowV.st {l : List Int} (v : Value) (s : Unit) (w : World) (s' : Unit) (w' : World) (h : RowV l v s w) (hr : GG.RlL s w s' w') : RowV l v s' w' := by
  obtain ⟨q, c, e, hk⟩ := h
  exact ⟨q, c, e, hk.below hr⟩
/-- A region that only makes memory. -/
structure GG.BelL (W : World) (_ : Nat → Bool) (_ : Unit) (w : World) : Prop where
  b : Below W.heap.size W w
theorem GG.BelL.still {W : World} {i : Nat} : GG.Still (GG.BelL W) GG.RlL i := ⟨fun _ _ _ h => ⟨h.b⟩, fun _ _ => Below.refl _ _⟩
def EndsPost (w : World) (l : List Int) (e : Ending) (w' : World) : Prop := ∃ q c q' c', e = .returned (.tuple #[.slice q (endN l.length) c, .slice q' (endN l.length) c']) ∧ I64s w' (.slice q (endN l.length) c) (l.take (endN l.length)) ∧ I64s w' (.slice q' (endN l.length) c') (l.drop (l.length - endN l.length)) ∧ Below w.heap.size w w'
set_option maxHeartbeats 4000000 in
set_option maxRecDepth 100000 in
theorem ends_is {w : World} {v : Value} {l : List Int} (h : I64s w v l) (hl : l.length ≤ 100000) :
    Calls Try.prog 12 #[v] w (EndsPost w l) := by
  obtain ⟨q, c, rfl⟩ := h.shape
  obtain ⟨-, -, hc, -⟩ := h.capN
  obtain ⟨k, hk⟩ : ∃ k, endN l.length = k := ⟨_, rfl⟩
  have hkl := (endN_le l.length).1
  have hck : l.length ≤ c := by
    rcases hc with hc | rfl
    · exact hc
    · simp
  rw [hk] at hkl
  have HK := Lib.hid hk
  have HV := Lib.hid h
  have HD := Lib.hid (h.dropM (a := l.length - k) (by omega))
  obtain ⟨J, hJ⟩ : ∃ J, l.length - k = J := ⟨_, rfl⟩
  rw [hJ, show l.length - J = k from by omega] at HD
  have hw : IntKind.i64.wrap ((l.length : Int) - (k : Int)) = (J : Int) := by
    rw [show (l.length : Int) - (k : Int) = (J : Int) from by omega]
    exact IntWalk.i64_in _ (by omega)
  have hs1 : (J : Int) ≤ (l.length : Int) := by omega
  have hs2 : l.length - J = k := by omega
  have hs3 : J ≤ l.length := by omega
  have HJ := Lib.hid hJ
  have hdl : (l.drop J).length = k := by rw [List.length_drop]; omega
  have htl : (l.take k).length = k := by rw [List.length_take]; omega
  have HDL := Lib.hid hdl
  have HTL := Lib.hid htl
  clear hdl htl
  have hwk : IntKind.i64.wrap (k : Int) = (k : Int) := IntWalk.i64_in _ (by omega)
  have DS0 : Hid (GG.BelL w (fun _ => false) () w.drew) := Lib.hid ⟨(Below.refl _ _).drew⟩
  clear hk h hc hJ
  go_enter Try.func12, Try.ntmps12
  go_wp2_with fail
  refine (end_is _ _ (by omega) HK.out).mono ?_
  rintro e w1 ⟨rfl, rfl⟩
  go_wp2_with fail
  refine' GG.wp_growL _ (GG.BelL w) [[], [], [0, 1], [], [], [4], [], [4, 5, 6], [3, 4, 5, 6, 7], [], [0, 1, 2, 3, 4, 5, 6, 7, 8, 9], [0, 1, 2, 3, 4, 5, 6, 7, 8, 9, 10], [0, 1, 2, 3, 4, 5, 6, 7, 8, 9, 10, 11]] (GG.Fact.lit (Rl := GG.RlL) _ :: GG.Fact.lit (Rl := GG.RlL) _ :: GG.Fact.prop (Rl := GG.RlL) _ _ :: GG.Fact.lit (Rl := GG.RlL) _ :: GG.Fact.lit (Rl := GG.RlL) _ :: GG.Fact.lit (Rl := GG.RlL) _ :: GG.Fact.lit (Rl := GG.RlL) _ :: GG.Fact.lit (Rl := GG.RlL) _ :: GG.Fact.lit (Rl := GG.RlL) _ :: GG.Fact.lit (Rl := GG.RlL) _ :: GG.Fact.prop (Rl := GG.RlL) _ _ :: GG.Fact.prop (Rl := GG.RlL) _ _ :: GG.Fact.prop (Rl := GG.RlL) _ _ :: []) (by kernel_rfl) rfl (by kernel_rfl) (()) (DS0.out) ?seqen
  case' seqen => skip
  (refine' GG.grow_lit (GG.BelL.still) rfl ?wten0 ?runen0 ?puten0 ?nexten0; (case wten0 => rfl); (case runen0 => (intro w' hS; (obtain ⟨dn, s, hS⟩ := hS); clear hS; go_simp; first | done | exact rfl)); (case puten0 => (first | (simp only [Act.put, List.setIfInBounds_toArray, List.set_cons_zero, List.set_cons_succ]; first | done | exact rfl) | rfl)); (case' nexten0 => skip))
  (refine' GG.grow_lit (GG.BelL.still) rfl ?wten1 ?runen1 ?puten1 ?nexten1; (case wten1 => rfl); (case runen1 => (intro w' hS; (obtain ⟨dn, s, hS⟩ := hS); clear hS; go_simp; first | done | exact rfl)); (case puten1 => (first | (simp only [Act.put, List.setIfInBounds_toArray, List.set_cons_zero, List.set_cons_succ]; first | done | exact rfl) | rfl)); (case' nexten1 => skip))
  (refine' GG.grow_any_call (p := RowV (l.take k)) (hp := RowV.st) rfl Try.func22 (by kernel_rfl) rfl rfl ?wten2 ?runen2 ?puten2 ?nexten2; (case wten2 => rfl); (case runen2 => (intro dn s w' hS hd H; exact (first_is (HV.out.below hS.b) hkl hl).mono (fun e w2 h => by obtain ⟨q1, c1, h1, h2, hb⟩ := h; exact ⟨_, (), h1, ⟨q1, c1, rfl, h2⟩, ⟨hS.b.trans (hb.mono hS.b.size)⟩, hb, hb.size⟩))); (case puten2 => (intro v; (simp only [Act.put, List.setIfInBounds_toArray, List.set_cons_zero, List.set_cons_succ]; first | done | exact rfl))); (case' nexten2 => intro v2))
  (refine' GG.grow_lit (GG.BelL.still) rfl ?wten3 ?runen3 ?puten3 ?nexten3; (case wten3 => rfl); (case runen3 => (intro w' hS; (obtain ⟨dn, s, hS⟩ := hS); clear hS; go_simp; first | done | exact rfl)); (case puten3 => (first | (simp only [Act.put, List.setIfInBounds_toArray, List.set_cons_zero, List.set_cons_succ]; first | done | exact rfl) | rfl)); (case' nexten3 => skip))
  (refine' GG.grow_lit (GG.BelL.still) rfl ?wten4 ?runen4 ?puten4 ?nexten4; (case wten4 => rfl); (case runen4 => (intro w' hS; (obtain ⟨dn, s, hS⟩ := hS); clear hS; go_simp; first | done | exact rfl)); (case puten4 => (first | (simp only [Act.put, List.setIfInBounds_toArray, List.set_cons_zero, List.set_cons_succ]; first | done | exact rfl) | rfl)); (case' nexten4 => skip))
  (refine' GG.grow_lit (GG.BelL.still) rfl ?wten5 ?runen5 ?puten5 ?nexten5; (case wten5 => rfl); (case runen5 => (intro w' hS; (obtain ⟨dn, s, hS⟩ := hS); clear hS; go_simp; first | done | exact rfl)); (case puten5 => (first | (simp only [Act.put, List.setIfInBounds_toArray, List.set_cons_zero, List.set_cons_succ]; first | done | exact rfl) | rfl)); (case' nexten5 => skip))
  (refine' GG.grow_lit (GG.BelL.still) rfl ?wten6 ?runen6 ?puten6 ?nexten6; (case wten6 => rfl); (case runen6 => (intro w' hS; (obtain ⟨dn, s, hS⟩ := hS); clear hS; go_simp; first | done | exact rfl)); (case puten6 => (first | (simp only [Act.put, List.setIfInBounds_toArray, List.set_cons_zero, List.set_cons_succ]; first | done | exact rfl) | rfl)); (case' nexten6 => skip))
  (refine' GG.grow_lit (GG.BelL.still) rfl ?wten7 ?runen7 ?puten7 ?nexten7; (case wten7 => rfl); (case runen7 => (intro w' hS; (obtain ⟨dn, s, hS⟩ := hS); clear hS; go_simp; first | done | exact rfl)); (case puten7 => (first | (simp only [Act.put, List.setIfInBounds_toArray, List.set_cons_zero, List.set_cons_succ]; first | done | exact rfl) | rfl)); (case' nexten7 => skip))
  (refine' GG.grow_write (u := .slice (movedS q c J) k (c - J)) rfl ?wten8 ?runen8 ?puten8 ?nexten8; (case wten8 => rfl); (case runen8 => (intro dn s w' hS hd H; refine ⟨(), w', ?_, ⟨hS.b⟩, Below.refl _ _, Nat.le_refl _⟩; clear H hS; go_simp; rfl)); (case puten8 => (first | (simp only [Act.put, List.setIfInBounds_toArray, List.set_cons_zero, List.set_cons_succ]; first | done | exact rfl) | rfl)); (case' nexten8 => skip))
  (refine' GG.grow_lit (GG.BelL.still) rfl ?wten9 ?runen9 ?puten9 ?nexten9; (case wten9 => rfl); (case runen9 => (intro w' hS; (obtain ⟨dn, s, hS⟩ := hS); clear hS; go_simp; first | done | exact rfl)); (case puten9 => (first | (simp only [Act.put, List.setIfInBounds_toArray, List.set_cons_zero, List.set_cons_succ]; first | done | exact rfl) | rfl)); (case' nexten9 => skip))
  (refine' GG.grow_any_call (p := RowV (l.drop J)) (hp := RowV.st) rfl Try.func22 (by kernel_rfl) rfl rfl ?wten10 ?runen10 ?puten10 ?nexten10; (case wten10 => rfl); (case runen10 => (intro dn s w' hS hd H; exact (first_is (k := k) (HD.out.below hS.b) (by rw [HDL.out]; exact Nat.le_refl _) (by rw [HDL.out]; omega)).mono (fun e w2 h => by obtain ⟨q1, c1, h1, h2, hb⟩ := h; rw [List.take_of_length_le (by rw [HDL.out]; exact Nat.le_refl _)] at h1 h2; exact ⟨_, (), h1, ⟨q1, c1, rfl, h2⟩, ⟨hS.b.trans (hb.mono hS.b.size)⟩, hb, hb.size⟩))); (case puten10 => (intro v; (simp only [Act.put, List.setIfInBounds_toArray, List.set_cons_zero, List.set_cons_succ]; first | done | exact rfl))); (case' nexten10 => intro v10))
  (refine' GG.grow_any_op (p := RowV (l.take k)) (hp := RowV.st) rfl ?wten11 ?runen11 ?puten11 ?nexten11; (case wten11 => rfl); (case runen11 => (intro dn s w' hS hd H; (have h2 : RowV (l.take k) v2 () w' := H 2 (by decide)); refine ⟨v2, (), w', ?_, h2, ⟨hS.b⟩, Below.refl _ _, Nat.le_refl _⟩; (clear H hS h2; go_simp))); (case puten11 => (intro v; (simp only [Act.put, List.setIfInBounds_toArray, List.set_cons_zero, List.set_cons_succ]; first | done | exact rfl))); (case' nexten11 => intro v11))
  (refine' GG.grow_any_op (p := RowV (l.drop J)) (hp := RowV.st) rfl ?wten12 ?runen12 ?puten12 ?nexten12; (case wten12 => rfl); (case runen12 => (intro dn s w' hS hd H; (have h2 : RowV (l.drop J) v10 () w' := H 10 (by decide)); refine ⟨v10, (), w', ?_, h2, ⟨hS.b⟩, Below.refl _ _, Nat.le_refl _⟩; (clear H hS h2; go_simp))); (case puten12 => (intro v; (simp only [Act.put, List.setIfInBounds_toArray, List.set_cons_zero, List.set_cons_succ]; first | done | exact rfl))); (case' nexten12 => intro v12))
  intro dn s w8 hS _ hk
  obtain ⟨q1, c1, rfl, h1⟩ : RowV (l.take k) v11 () w8 := hk 11 (by decide)
  obtain ⟨q2, c2, rfl, h2⟩ : RowV (l.drop J) v12 () w8 := hk 12 (by decide)
  rw [HTL.out] at h1 ⊢
  rw [HDL.out] at h2 ⊢
  have HP : Hid (EndsPost w l (.returned (.tuple #[.slice q1 k c1, .slice q2 k c2])) w8) := Lib.hid (by
    unfold EndsPost
    rw [HK.out, HJ.out]
    exact ⟨q1, c1, q2, c2, rfl, h1, h2, hS.b⟩)
  clear hk hS h1 h2 DS0
  go_wp2_with fail
  exact bodyPost_ret (v := .tuple #[.slice q1 k c1, .slice q2 k c2]) (by simp [results, Try.results12, go_sem]) rfl HP.out
def HalfPost (w : World) (l : List Int) (k : Nat) (e : Ending) (w' : World) : Prop := ∃ q c, e = .returned (.slice q k c) ∧ I64s w' (.slice q k c) (l.take k) ∧ Below w.heap.size w w'
set_option maxHeartbeats 4000000 in
theorem half_is {w : World} {v : Value} {l : List Int} (h : I64s w v l) (hl : l.length ≤ 100000) {k : Nat} (hk : (l.length + 1) / 2 = k) :
    Calls Try.prog 13 #[v] w (HalfPost w l k) := by
  obtain ⟨q, c, rfl⟩ := h.shape
  have HV := Lib.hid h
  have hkl : k ≤ l.length := by omega
  have htl : (l.take k).length = k := by rw [List.length_take]; omega
  have HTL := Lib.hid htl
  have h3 : (l.length : Int) + 1 = ((l.length + 1 : Nat) : Int) := by omega
  have w1 : IntKind.i64.wrap ((l.length : Int) + 1) = ((l.length + 1 : Nat) : Int) := by rw [h3]; exact IntWalk.i64_in _ (by omega)
  obtain ⟨Z, hZ⟩ : ∃ Z : Int, ((l.length + 1 : Nat) : Int) = Z := ⟨_, rfl⟩
  rw [hZ] at w1
  have e1 : Z.tdiv 2 = (k : Int) := by rw [← hZ, ← hk]; rfl
  have e2 : IntKind.i64.wrap (Z.tdiv 2) = (k : Int) := by rw [e1]; exact IntWalk.i64_in _ (by omega)
  have e3 : Z / 2 = (k : Int) := by omega
  have e4 : IntKind.i64.wrap (k : Int) = (k : Int) := IntWalk.i64_in _ (by omega)
  clear h h3 hZ hk htl
  go_enter Try.func13, Try.ntmps13
  go_wp2_with fail
  clear w1 e1 e2 e3 e4
  refine (first_is HV.out hkl hl).mono ?_
  rintro e w1 ⟨q1, c1, rfl, h1, hb⟩
  rw [HTL.out] at h1 ⊢
  have HP : Hid (HalfPost w l k (.returned (.slice q1 k c1)) w1) := Lib.hid ⟨q1, c1, rfl, h1, hb⟩
  clear h1 hb
  go_wp2_with fail
  go_ret
  exact HP.out
set_option maxHeartbeats 4000000 in
theorem fair_is {w : World} {v : Value} {l : List Bool} (h : Bools w v l) (hl : l.length ≤ 100000) {r : Bool} (hr : fairL l = r) :
    Calls Try.prog 14 #[v] w fun e w' => e = .returned (.bool r) ∧ w = w' := by
  obtain ⟨q, c, rfl⟩ := h.shape
  have HV := Lib.hid h
  have HR := Lib.hid hr
  clear h hr
  go_enter Try.func14, Try.ntmps14
  go_wp2_with fail
  go_loop [3, 5, 9] (fun mv _ iv => ∃ k : Nat, k ≤ l.length ∧ iv = .int .i64 k ∧ mv = .int .i64 (cntT (l.take k) : Nat)) (fun _ _ iv => l.length - (intOf iv).toNat)
  case atStart => exact ⟨0, Nat.zero_le _, rfl, rfl⟩
  case round =>
    obtain ⟨k, hk, rfl, rfl⟩ := hrel
    by_cases hlt : k < l.length
    · have hki : (k : Int) < (l.length : Int) := by omega
      obtain ⟨bb, bo, rfl, bc⟩ := HV.out.at (k := k) hlt
      have bl := World.block_lt_of_cell? w _ bc
      have HT : Hid (l.take (k + 1) = l.take k ++ [l[k]]) := Lib.hid (List.take_succ_eq_append_getElem hlt)
      have hcl : cntT (l.take k) ≤ k := by have := cntT_le (l.take k); rw [List.length_take] at this; omega
      generalize l[k] = x at bc HT
      cases x with
      | true =>
        have HC : Hid (cntT (l.take (k + 1)) = cntT (l.take k) + 1) := Lib.hid (by rw [HT.out, cntT_snoc]; rfl)
        generalize cntT (l.take k) = m at HC hcl
        clear HT
        go_wp2_with fail
        go_round
        case rel => exact ⟨k + 1, hlt, by go_num, by rw [HC.out]; go_num⟩
        case measure => simp [intOf]; omega
      | false =>
        have HC : Hid (cntT (l.take (k + 1)) = cntT (l.take k)) := Lib.hid (by rw [HT.out, cntT_snoc]; rfl)
        generalize cntT (l.take k) = m at HC hcl
        clear HT
        go_wp2_with fail
        go_round
        case rel => exact ⟨k + 1, hlt, by go_num, by rw [HC.out]⟩
        case measure => simp [intOf]; omega
    · obtain rfl : k = l.length := by omega
      rw [List.take_length]
      have hcl := cntT_le l
      obtain ⟨k, hk⟩ : ∃ k, endN l.length = k := ⟨_, rfl⟩
      have HF : Hid ((decide (0 < k) && (decide (k ≤ cntT l) && decide (k ≤ l.length - cntT l))) = r) := Lib.hid (by rw [← hk]; exact HR.out)
      have HK := Lib.hid hk
      generalize cntT l = m at hcl HF
      have hw : IntKind.i64.wrap ((l.length : Int) - (m : Int)) = (l.length : Int) - (m : Int) := IntWalk.i64_in _ (by omega)
      clear hk hlt
      go_wp2_with fail
      refine (end_is _ _ (by omega) HK.out).mono ?_
      rintro e w1 ⟨rfl, rfl⟩
      by_cases h0 : 0 < k
      · have h0i : (0 : Int) < (k : Int) := by omega
        by_cases h1 : k ≤ m
        · have h1i : (k : Int) ≤ (m : Int) := by omega
          by_cases h2 : k ≤ l.length - m
          · have h2i : (k : Int) ≤ (l.length : Int) - (m : Int) := by omega
            have HX : Hid (r = true) := Lib.hid (by rw [← HF.out]; simp [h0, h1, h2])
            clear HF
            go_wp2_with fail
            go_ret
            exact ⟨by rw [HX.out]; rfl, rfl⟩
          · have h2i : decide ((k : Int) ≤ (l.length : Int) - (m : Int)) = false := decide_eq_false (by omega)
            have HX : Hid (r = false) := Lib.hid (by rw [← HF.out]; simp [h2])
            clear HF
            go_wp2_with fail
            go_ret
            exact ⟨by rw [HX.out]; rfl, rfl⟩
        · have h1i : decide ((k : Int) ≤ (m : Int)) = false := decide_eq_false (by omega)
          have HX : Hid (r = false) := Lib.hid (by rw [← HF.out]; simp [h1])
          clear HF
          go_wp2_with fail
          go_ret
          exact ⟨by rw [HX.out]; rfl, rfl⟩
      · have h0i : decide ((0 : Int) < (k : Int)) = false := decide_eq_false (by omega)
        have HX : Hid (r = false) := Lib.hid (by rw [← HF.out]; simp [h0])
        clear HF
        go_wp2_with fail
        go_ret
        exact ⟨by rw [HX.out]; rfl, rfl⟩
end Go.Proofs.Ytleheaffipokfaa
