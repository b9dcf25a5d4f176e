/-
  A net in bytes, whole: what is told is read as it was; what is read is told again as just these bytes; a byte that is turned is told by the sum. Plain maths.
-/
import Derived.Test.YtjapdbegfanfiaaGreatDoorB7
import Derived.Test.YtjapdbegfanfiaaGreatDoorA1
import Derived.Test.YtjapdbegfanfiaaGreatDoorB4
import Derived.Test.YtjapdbegfanfiaaGreatDoorC8
namespace Go.Proofs.YtjapdbegfanfiaaGreatDoor

/-! ### the numbers of a net that may be -/
theorem coord_of {x : Int} (h : coordB x = true) : -1048576 ≤ x ∧ x ≤ 1048576 := of_decide_eq_true h
theorem numsT_in {t : Tab} (h : chkT t.1 t.2.1 t.2.2 = (0, 0)) : InQ (numsT t) := by
  obtain ⟨i0, i1, o0, o1, hn, hall⟩ := chkT_ok (by rw [h])
  intro v hv
  unfold numsT at hv
  rcases List.mem_cons.1 hv with rfl | hv
  · omega
  rcases List.mem_cons.1 hv with rfl | hv
  · omega
  obtain ⟨c, hc, rfl⟩ := List.mem_map.1 hv
  have := pz_in (List.all_eq_true.1 hall c hc)
  omega
def VOK (v : Tri) : Prop := (-1048576 ≤ v.1 ∧ v.1 ≤ 1048576) ∧ (-1048576 ≤ v.2.1 ∧ v.2.1 ≤ 1048576) ∧ 0 ≤ v.2.2 ∧ v.2.2 ≤ 16384
theorem numsV_in : ∀ (l : List Tri) (x y : Int), (-1048576 ≤ x ∧ x ≤ 1048576) → (-1048576 ≤ y ∧ y ≤ 1048576) → (∀ v ∈ l, VOK v) → InQ (numsV x y l)
  | [], _, _, _, _, _ => fun _ h => by cases h
  | v :: r, x, y, hx, hy, h => by
    obtain ⟨h1, h2, h3⟩ := h v (List.mem_cons_self ..)
    have ih := numsV_in r v.1 v.2.1 h1 h2 (fun u hu => h u (List.mem_cons_of_mem _ hu))
    intro z hz
    unfold numsV at hz
    rcases List.mem_cons.1 hz with rfl | hz
    · exact foldZ_in (by omega) (by omega)
    rcases List.mem_cons.1 hz with rfl | hz
    · exact foldZ_in (by omega) (by omega)
    rcases List.mem_cons.1 hz with rfl | hz
    · omega
    exact ih z hz
def AOK (a : Tri) : Prop := (0 ≤ a.1 ∧ a.1 ≤ 16384) ∧ (0 ≤ a.2.1 ∧ a.2.1 ≤ 16384) ∧ wgt a.2.2 = true
theorem numsA_in {a : Tri} (h : AOK a) : InQ (numsA a) := by
  obtain ⟨h1, h2, h3⟩ := h
  have := pz_in h3
  intro z hz
  unfold numsA at hz
  rcases List.mem_cons.1 hz with rfl | hz
  · omega
  rcases List.mem_cons.1 hz with rfl | hz
  · omega
  rcases List.mem_cons.1 hz with rfl | hz
  · omega
  cases hz
theorem NetGood.tOK {n : NetD} (h : NetGood n) : ∀ t ∈ n.t, chkT t.1 t.2.1 t.2.2 = (0, 0) := fun t ht => by
  obtain ⟨k, hk, rfl⟩ := List.mem_iff_getElem.1 ht
  exact h.tabs k hk
theorem NetGood.vOK {n : NetD} (h : NetGood n) : ∀ v ∈ n.v, VOK v := fun v hv => by
  obtain ⟨k, hk, rfl⟩ := List.mem_iff_getElem.1 hv
  obtain ⟨h1, h2, h3, h4⟩ := h.verts k hk
  have := h.st
  exact ⟨coord_of h1, coord_of h2, h3, by omega⟩
theorem NetGood.aOK {n : NetD} (h : NetGood n) : ∀ a ∈ n.a, AOK a := fun a ha => by
  obtain ⟨k, hk, rfl⟩ := List.mem_iff_getElem.1 ha
  obtain ⟨h1, h2, h3, h4, h5⟩ := h.arcs k hk
  have := h.sv
  exact ⟨⟨h1, by omega⟩, ⟨h3, by omega⟩, h5⟩
theorem numsN_in {n : NetD} (h : NetGood n) : InQ (numsN n) := by
  have h1 := h.sv
  have h2 := h.sa
  have h3 := h.st
  intro z hz
  unfold numsN at hz
  rcases List.mem_cons.1 hz with rfl | hz
  · omega
  rcases List.mem_cons.1 hz with rfl | hz
  · omega
  rcases List.mem_cons.1 hz with rfl | hz
  · omega
  rcases List.mem_append.1 hz with hz | hz
  · obtain ⟨t, ht, hz⟩ := List.mem_flatMap.1 hz
    exact numsT_in (h.tOK t ht) z hz
  rcases List.mem_append.1 hz with hz | hz
  · exact numsV_in _ 0 0 (by omega) (by omega) h.vOK z hz
  · obtain ⟨a, ha, hz⟩ := List.mem_flatMap.1 hz
    exact numsA_in (h.aOK a ha) z hz

/-- What is told is read. -/
theorem rdN_nums {n : NetD} (h : NetGood n) : rdN (encs (numsN n)) = n ∧ (rdAs (encs (numsN n))).2 = ((encs (numsN n)).length, 0) := by
  have hq := numsN_in h
  have h1 := h.sv
  have h2 := h.sa
  have h3 := h.st
  obtain ⟨q, eq⟩ : ∃ q, numsN n = q := ⟨_, rfl⟩
  have hst : Reads q (numsN n) (0, 0) := ⟨[], eq.symm, rfl⟩
  rw [eq] at hq ⊢
  unfold numsN at hst
  obtain ⟨s1, e1, r1⟩ := hst.u hq (M := 256) (by omega)
  obtain ⟨s2, e2, r2⟩ := r1.u hq (M := 4096) (by omega)
  obtain ⟨s3, e3, r3⟩ := r2.u hq (M := 16384) (by omega)
  have ek : rdK (encs q) = (((n.t.length : Int), (n.v.length : Int), (n.a.length : Int)), s3) := by unfold rdK; simp only [e1, e2, e3]
  obtain ⟨s4, e4, r4⟩ := goK_all (er := erS) (f := rdT (encs q)) (fun ts s => (∀ t ∈ ts, chkT t.1 t.2.1 t.2.2 = (0, 0)) ∧ Reads q (ts.flatMap numsT ++ (numsV 0 0 n.v ++ n.a.flatMap numsA)) s) (fun _ _ h => h.2.er)
    (fun x l s hx => by
      obtain ⟨s', g1, g2⟩ := Reads.t (r := l.flatMap numsT ++ (numsV 0 0 n.v ++ n.a.flatMap numsA)) hq (hx.1 x (List.mem_cons_self ..)) (by rw [← List.append_assoc]; exact hx.2)
      exact ⟨s', g1, fun c hc => hx.1 c (List.mem_cons_of_mem _ hc), g2⟩) (l := n.t) (s := s3) ⟨h.tOK, r3⟩ (k := ((n.t.length : Int)).toNat) (by omega)
  have et : rdTs (encs q) = (n.t, s4) := by unfold rdTs; rw [ek]; exact e4
  have r4' : Reads q (numsV 0 0 n.v ++ n.a.flatMap numsA) s4 := r4.2
  obtain ⟨s5, e5, r5⟩ := goK_all (er := erV) (f := rdV (encs q)) (fun vs s => (∀ v ∈ vs, VOK v) ∧ ((-1048576 ≤ s.1.1 ∧ s.1.1 ≤ 1048576) ∧ -1048576 ≤ s.1.2 ∧ s.1.2 ≤ 1048576) ∧ Reads q (numsV s.1.1 s.1.2 vs ++ n.a.flatMap numsA) s.2) (fun _ _ h => h.2.2.er)
    (fun x l s hx => by
      obtain ⟨v1, v2, v3⟩ := hx.1 x (List.mem_cons_self ..)
      obtain ⟨s', g1, g2⟩ := Reads.v (r := numsV x.1 x.2.1 l ++ n.a.flatMap numsA) hq hx.2.1 ⟨v1, v2, v3.2⟩ hx.2.2
      exact ⟨_, g1, fun c hc => hx.1 c (List.mem_cons_of_mem _ hc), ⟨v1, v2⟩, g2⟩) (l := n.v) (s := ((0, 0), s4)) ⟨h.vOK, by simp, r4'⟩ (k := ((n.v.length : Int)).toNat) (by omega)
  have ev : rdVs (encs q) = (n.v, s5) := by unfold rdVs; rw [ek, et]; exact e5
  have r5' : Reads q (n.a.flatMap numsA ++ []) s5.2 := by rw [List.append_nil]; exact r5.2.2
  obtain ⟨s6, e6, r6⟩ := goK_all (er := erS) (f := rdA (encs q)) (fun ys s => (∀ a ∈ ys, AOK a) ∧ Reads q (ys.flatMap numsA ++ []) s) (fun _ _ h => h.2.er)
    (fun x l s hx => by
      obtain ⟨a1, a2, a3⟩ := hx.1 x (List.mem_cons_self ..)
      obtain ⟨s', g1, g2⟩ := Reads.a (r := l.flatMap numsA ++ []) hq ⟨a1.2, a2.2, a3⟩ (by rw [← List.append_assoc]; exact hx.2)
      exact ⟨s', g1, fun c hc => hx.1 c (List.mem_cons_of_mem _ hc), g2⟩) (l := n.a) (s := s5.2) ⟨h.aOK, r5'⟩ (k := ((n.a.length : Int)).toNat) (by omega)
  have ea : rdAs (encs q) = (n.a, s6) := by unfold rdAs; rw [ek, ev]; exact e6
  refine ⟨by unfold rdN; rw [et, ev, ea], ?_⟩
  rw [ea]
  obtain ⟨p, hp, rfl⟩ := r6.2
  rw [hp]; simp

/-! ### the whole -/
def emptyN : NetD := ⟨[], [], []⟩
/-- What Parse tells. -/
def parseF (b : List Int) : NetD × Flt :=
  if 65536 < b.length then (emptyN, ([(fileB, 0)], 4))
  else if b.length < 8 then (emptyN, ([(fileB, 0)], 3))
  else if sumB (b.take (b.length - 4)) ≠ b.drop (b.length - 4) then (emptyN, ([(fileB, 0)], 11))
  else if b.take 4 ≠ markL then (emptyN, ([(fileB, 0)], 2))
  else if (rdAs ((b.take (b.length - 4)).drop 4)).2.2 ≠ 0 then (emptyN, ([(byteF, (rdAs ((b.take (b.length - 4)).drop 4)).2.1)], (rdAs ((b.take (b.length - 4)).drop 4)).2.2))
  else if (rdAs ((b.take (b.length - 4)).drop 4)).2.1 < ((b.take (b.length - 4)).drop 4).length then (emptyN, ([(byteF, (rdAs ((b.take (b.length - 4)).drop 4)).2.1)], 4))
  else if (chkN (rdN ((b.take (b.length - 4)).drop 4))).2 ≠ 0 then (emptyN, chkN (rdN ((b.take (b.length - 4)).drop 4)))
  else (rdN ((b.take (b.length - 4)).drop 4), fltOK)
/-- What Encode tells. -/
def encodeF (n : NetD) : List Int × Flt :=
  if (chkN n).2 ≠ 0 then ([], chkN n) else if 65536 < (fileN n).length then ([], ([(fileB, 0)], 4)) else (fileN n, fltOK)

theorem file_parts (n : NetD) : (fileN n).take ((fileN n).length - 4) = bodyN n ∧ (fileN n).drop ((fileN n).length - 4) = sumB (bodyN n) := by
  rw [fileN_len]
  simp [fileN]
theorem body_parts (n : NetD) : (bodyN n).take 4 = markL ∧ (bodyN n).drop 4 = encs (numsN n) := by unfold bodyN; exact ⟨List.take_left' rfl, List.drop_left' rfl⟩
theorem file_mark (n : NetD) : (fileN n).take 4 = markL := by unfold fileN bodyN; rw [List.append_assoc]; exact List.take_left' rfl
theorem parse_file {n : NetD} (h : (chkN n).2 = 0) (hl : (fileN n).length ≤ 65536) : parseF (fileN n) = (n, fltOK) := by
  have hg := good_of h
  obtain ⟨h1, h2⟩ := rdN_nums hg
  obtain ⟨p1, p2⟩ := file_parts n
  have p3 := fileN_len n
  have p4 := bodyN_len n
  unfold parseF
  rw [if_neg (by omega), if_neg (by omega), p1, p2, if_neg (by simp), file_mark, if_neg (by simp), (body_parts n).2, h2, if_neg (by simp), if_neg (by simp), h1, if_neg (by omega)]
theorem file_inj {n m : NetD} (h : (chkN n).2 = 0) (hl : (fileN n).length ≤ 65536) (k : (chkN m).2 = 0) (kl : (fileN m).length ≤ 65536) (e : fileN n = fileN m) : n = m := by
  have h1 := parse_file h hl
  rw [e, parse_file k kl] at h1
  exact (congrArg Prod.fst h1).symm
theorem fileN_in8 {n : NetD} (h : (chkN n).2 = 0) : In8 (fileN n) := by
  have h1 : In8 (bodyN n) := In8.append (by intro x hx; simp [markL] at hx; omega) (encs_in8 (numsN_in (good_of h)))
  exact h1.append (sumB_in8 _)
theorem set_right {B S : List Int} {k : Nat} {c : Int} (h1 : B.length ≤ k) (h : k < (B ++ S).length) (hne : ¬ c = (B ++ S)[k]) : (B ++ S).set k c = B ++ S.set (k - B.length) c ∧ ¬ S = S.set (k - B.length) c := by
  refine ⟨List.set_append_right _ _ h1, fun e => hne ?_⟩
  rw [List.length_append] at h
  have h2 : k - B.length < S.length := by omega
  have e4 : (B ++ S)[k] = S[k - B.length] := List.getElem_append_right h1
  rw [e4]
  have := congrArg (fun l => l[k - B.length]?) e
  simp only [List.getElem?_eq_getElem h2, List.getElem?_set_self h2] at this
  exact (Option.some.inj this).symm
/-- A byte that is turned. -/
theorem parse_turned {n : NetD} (h : (chkN n).2 = 0) (hl : (fileN n).length ≤ 65536) {k : Nat} (hk : k < (fileN n).length) {c : Int} (hc : 0 ≤ c ∧ c ≤ 255) (hne : ¬ c = (fileN n)[k]) : parseF ((fileN n).set k c) = (emptyN, ([(fileB, 0)], 11)) := by
  have p3 := fileN_len n
  have p4 := bodyN_len n
  have hb : In8 (bodyN n) := fun x hx => fileN_in8 h x (List.mem_append_left _ hx)
  unfold parseF
  rw [List.length_set, if_neg (by omega), if_neg (by omega), if_pos ?_]
  have e1 : (fileN n).length - 4 = (bodyN n).length := by omega
  rw [e1]
  by_cases hkb : k < (bodyN n).length
  · have e2 : (fileN n).set k c = (bodyN n).set k c ++ sumB (bodyN n) := by unfold fileN; rw [List.set_append_left _ _ hkb]
    have e3 : ((bodyN n).set k c).length = (bodyN n).length := List.length_set
    have e4 : (fileN n)[k]'hk = (bodyN n)[k]'hkb := by unfold fileN; exact List.getElem_append_left hkb
    rw [e2, ← e3, List.take_left, List.drop_left]
    intro e
    exact hne (((sum_turned hb hkb hc).1 e).trans e4.symm)
  · obtain ⟨e2, e5⟩ := set_right (B := bodyN n) (S := sumB (bodyN n)) (by omega) hk hne
    have e3 : (fileN n).set k c = bodyN n ++ (sumB (bodyN n)).set (k - (bodyN n).length) c := e2
    rw [e3, List.take_left, List.drop_left]
    exact e5
theorem parse_cut {n : NetD} {k : Nat} (hk : k < 8) : parseF ((fileN n).take k) = (emptyN, ([(fileB, 0)], 3)) := by
  unfold parseF
  rw [if_neg (by rw [List.length_take]; omega), if_pos (by rw [List.length_take]; omega)]

/-! ### what is read is told again as it was -/
/-- So far the numbers p were read. -/
def Told (l p : List Int) (s : RSt) : Prop := s.1 ≤ l.length ∧ l.take s.1 = encs p
theorem Told.u {l p : List Int} {s : RSt} {M : Int} (hl : In8 l) (h : s.2 = 0 → Told l p s) (he : (rdU l M s).2.2 = 0) : s.2 = 0 ∧ (0 ≤ (rdU l M s).1 ∧ (rdU l M s).1 ≤ M) ∧ Told l (p ++ [(rdU l M s).1]) (rdU l M s).2 := by
  unfold rdU uR at *
  by_cases h0 : s.2 = 0
  · rw [if_pos h0] at *
    by_cases h1 : (rd (l.drop s.1)).2.2 = 0
    · rw [if_pos h1] at *
      by_cases h2 : M < (rd (l.drop s.1)).1
      · rw [if_pos h2] at he
        simp at he
      · rw [if_neg h2] at *
        obtain ⟨g1, g2, g3, g4⟩ := rd_once (hl.drop s.1) h1
        obtain ⟨t1, t2⟩ := h h0
        rw [List.length_drop] at g3
        refine ⟨h0, ⟨g1, by show (rd (l.drop s.1)).1 ≤ M; omega⟩, by show s.1 + _ ≤ _; omega, ?_⟩
        show l.take (s.1 + (rd (l.drop s.1)).2.1) = encs (p ++ [(rd (l.drop s.1)).1])
        rw [List.take_add, t2, ← g4, encs_snoc]
    · rw [if_neg h1] at he
      exact absurd he h1
  · rw [if_neg h0] at he
    exact absurd he h0
theorem Told.i {l p : List Int} {s : RSt} {M : Int} (hl : In8 l) (h : s.2 = 0 → Told l p s) (he : (rdI l M s).2.2 = 0) : s.2 = 0 ∧ Told l (p ++ [foldZ (rdI l M s).1]) (rdI l M s).2 := by
  unfold rdI iR at *
  by_cases h0 : s.2 = 0
  · rw [if_pos h0] at *
    by_cases h1 : (rd (l.drop s.1)).2.2 = 0
    · rw [if_pos h1] at *
      by_cases h2 : M < amtZ (rd (l.drop s.1)).1
      · rw [if_pos h2] at he
        simp at he
      · rw [if_neg h2] at *
        obtain ⟨g1, g2, g3, g4⟩ := rd_once (hl.drop s.1) h1
        obtain ⟨t1, t2⟩ := h h0
        rw [List.length_drop] at g3
        refine ⟨h0, by show s.1 + _ ≤ _; omega, ?_⟩
        show l.take (s.1 + (rd (l.drop s.1)).2.1) = encs (p ++ [foldZ (unfZ (rd (l.drop s.1)).1)])
        rw [List.take_add, t2, ← g4, foldZ_unfZ g1, encs_snoc]
    · rw [if_neg h1] at he
      exact absurd he h1
  · rw [if_neg h0] at he
    exact absurd he h0
theorem Told.c {l p : List Int} {s : RSt} (hl : In8 l) (h : s.2 = 0 → Told l p s) (he : (rdC l s).2.2 = 0) : s.2 = 0 ∧ Told l (p ++ [pz (rdC l s).1]) (rdC l s).2 := by
  obtain ⟨h1, h2, h3⟩ := Told.u hl h (M := 2147483649) he
  refine ⟨h1, ?_⟩
  show Told l (p ++ [pz (unpz (rdU l 2147483649 s).1)]) (rdU l 2147483649 s).2
  rw [(pz_unpz h2.1 h2.2).1]
  exact h3
theorem goK_told {σ α : Type} {er : σ → Int} {f : σ → α × σ} {s : σ} (I : List α → σ → Prop) (h0 : er s = 0 → I [] s) (hf : ∀ l s, (er s = 0 → I l s) → er (f s).2 = 0 → er s = 0 ∧ I (l ++ [(f s).1]) (f s).2) :
    ∀ k, er (goK er f s k).2 = 0 → er s = 0 ∧ I (goK er f s k).1 (goK er f s k).2 ∧ (goK er f s k).1.length = k
  | 0, h => ⟨h, h0 h, rfl⟩
  | k + 1, h => by
    by_cases hk : er (goK er f s k).2 = 0
    · obtain ⟨g0, g1, g2⟩ := goK_told I h0 hf k hk
      rw [goK_step hk] at h ⊢
      exact ⟨g0, (hf _ _ (fun _ => g1) h).2, by rw [List.length_append, g2]; rfl⟩
    · rw [goK_stop hk 1] at h
      exact absurd h hk
theorem Told.t {l p : List Int} {s : RSt} (hl : In8 l) (h : s.2 = 0 → Told l p s) (he : (rdT l s).2.2 = 0) : s.2 = 0 ∧ Told l (p ++ numsT (rdT l s).1) (rdT l s).2 := by
  unfold rdT at he ⊢
  simp only at he ⊢
  obtain ⟨i, hi⟩ : ∃ i, rdU l 16 s = i := ⟨_, rfl⟩
  obtain ⟨o, ho⟩ : ∃ o, rdU l 16 i.2 = o := ⟨_, rfl⟩
  rw [hi, ho] at he ⊢
  have key : o.2.2 = 0 → s.2 = 0 ∧ Told l (p ++ [i.1] ++ [o.1]) o.2 := by
    intro h2
    subst ho
    have hh : i.2.2 = 0 → s.2 = 0 ∧ Told l (p ++ [i.1]) i.2 := by
      intro h3
      subst hi
      obtain ⟨a1, -, a3⟩ := Told.u hl h h3
      exact ⟨a1, a3⟩
    obtain ⟨b1, -, b3⟩ := Told.u hl (fun z => (hh z).2) h2
    exact ⟨(hh b1).1, b3⟩
  obtain ⟨g0, g1, g2⟩ := goK_told (er := erS) (f := rdC l) (s := o.2) (fun cs s => Told l (p ++ [i.1] ++ [o.1] ++ cs.map pz) s) (fun h2 => by rw [List.map_nil, List.append_nil]; exact (key h2).2)
    (fun cs s hs hf => by
      obtain ⟨c1, c2⟩ := Told.c hl hs hf
      exact ⟨c1, by rw [List.map_append, ← List.append_assoc]; exact c2⟩) _ he
  refine ⟨(key g0).1, ?_⟩
  unfold numsT
  rw [show p ++ (i.1 :: o.1 :: (goK erS (rdC l) o.2 (i.1 * o.1).toNat).1.map pz) = p ++ [i.1] ++ [o.1] ++ (goK erS (rdC l) o.2 (i.1 * o.1).toNat).1.map pz by simp]
  exact g1
theorem numsV_snoc : ∀ (l : List Tri) (x y : Int) (v : Tri), numsV x y (l ++ [v]) = numsV x y l ++ [foldZ (v.1 - (((x, y) :: l.map fun u => (u.1, u.2.1)).getLast (by simp)).1), foldZ (v.2.1 - (((x, y) :: l.map fun u => (u.1, u.2.1)).getLast (by simp)).2), v.2.2]
  | [], x, y, v => by simp [numsV]
  | u :: r, x, y, v => by
    simp only [List.cons_append, numsV, numsV_snoc r u.1 u.2.1 v]
    simp
/-- Where the last vertex of a row stands. -/
def lastXY (l : List Tri) : Int × Int := ((0, 0) :: l.map fun u => (u.1, u.2.1)).getLast (by simp)
theorem lastXY_snoc (l : List Tri) (v : Tri) : lastXY (l ++ [v]) = (v.1, v.2.1) := by
  unfold lastXY
  simp only [List.map_append, List.map_cons, List.map_nil]
  rw [show ((0, 0) :: (l.map (fun u : Tri => (u.1, u.2.1)) ++ [(v.1, v.2.1)])).getLast (by simp) = (((0, 0) :: l.map (fun u : Tri => (u.1, u.2.1))) ++ [(v.1, v.2.1)]).getLast (by simp) from rfl, List.getLast_concat]
theorem Told.v {l p : List Int} {s : (Int × Int) × RSt} (hl : In8 l) (h : s.2.2 = 0 → Told l p s.2) (he : (rdV l s).2.2.2 = 0) :
    s.2.2 = 0 ∧ Told l (p ++ [foldZ ((rdV l s).1.1 - s.1.1), foldZ ((rdV l s).1.2.1 - s.1.2), (rdV l s).1.2.2]) (rdV l s).2.2 := by
  unfold rdV at he ⊢
  simp only at he ⊢
  obtain ⟨i, hi⟩ : ∃ i, rdI l 2097152 s.2 = i := ⟨_, rfl⟩
  obtain ⟨j, hj⟩ : ∃ j, rdI l 2097152 i.2 = j := ⟨_, rfl⟩
  rw [hi, hj] at he ⊢
  obtain ⟨u1, -, u3⟩ := Told.u (p := p ++ [foldZ i.1] ++ [foldZ j.1]) hl (fun h2 => by
    subst hj
    exact (Told.i (p := p ++ [foldZ i.1]) hl (fun h3 => by
      subst hi
      exact (Told.i hl h h3).2) h2).2) he
  have hi0 : s.2.2 = 0 := by
    have h3 : i.2.2 = 0 := by
      subst hj
      exact (Told.i (p := p ++ [foldZ i.1]) hl (fun h3 => by
        subst hi
        exact (Told.i hl h h3).2) u1).1
    subst hi
    exact (Told.i hl h h3).1
  refine ⟨hi0, ?_⟩
  have e1 : s.1.1 + i.1 - s.1.1 = i.1 := by omega
  have e2 : s.1.2 + j.1 - s.1.2 = j.1 := by omega
  rw [e1, e2, show ∀ z, p ++ [foldZ i.1, foldZ j.1, z] = p ++ [foldZ i.1] ++ [foldZ j.1] ++ [z] by simp]
  exact u3
theorem Told.a {l p : List Int} {s : RSt} (hl : In8 l) (h : s.2 = 0 → Told l p s) (he : (rdA l s).2.2 = 0) : s.2 = 0 ∧ Told l (p ++ numsA (rdA l s).1) (rdA l s).2 := by
  unfold rdA at he ⊢
  simp only at he ⊢
  obtain ⟨i, hi⟩ : ∃ i, rdU l 16384 s = i := ⟨_, rfl⟩
  obtain ⟨j, hj⟩ : ∃ j, rdU l 16384 i.2 = j := ⟨_, rfl⟩
  rw [hi, hj] at he ⊢
  have k1 : i.2.2 = 0 → s.2 = 0 ∧ Told l (p ++ [i.1]) i.2 := fun h3 => by
    subst hi
    obtain ⟨a1, -, a3⟩ := Told.u hl h h3
    exact ⟨a1, a3⟩
  have k2 : j.2.2 = 0 → i.2.2 = 0 ∧ Told l (p ++ [i.1] ++ [j.1]) j.2 := fun h3 => by
    subst hj
    obtain ⟨a1, -, a3⟩ := Told.u hl (fun z => (k1 z).2) h3
    exact ⟨a1, a3⟩
  obtain ⟨c1, c2⟩ := Told.c hl (fun z => (k2 z).2) he
  refine ⟨(k1 (k2 c1).1).1, ?_⟩
  unfold numsA
  rw [show ∀ z, p ++ [i.1, j.1, z] = p ++ [i.1] ++ [j.1] ++ [z] by simp]
  exact c2

/-- Whatever is read to its end is told so. -/
theorem nums_rdN {l : List Int} (hl : In8 l) (he : (rdAs l).2.2 = 0) (hd : ¬ (rdAs l).2.1 < l.length) : encs (numsN (rdN l)) = l := by
  have k1 : (rdU l 256 (0, 0)).2.2 = 0 → _ := fun h => Told.u (p := []) hl (fun _ => ⟨Nat.zero_le _, rfl⟩) h
  have k2 : (rdU l 4096 (rdU l 256 (0, 0)).2).2.2 = 0 → _ := fun h => Told.u hl (fun z => (k1 z).2.2) h
  have k3 : (rdK l).2.2 = 0 → _ := fun h => Told.u (M := 16384) hl (fun z => (k2 z).2.2) h
  obtain ⟨t, ht⟩ : ∃ t, (rdK l).1.1 = t := ⟨_, rfl⟩
  obtain ⟨v, hv⟩ : ∃ v, (rdK l).1.2.1 = v := ⟨_, rfl⟩
  obtain ⟨a, ha⟩ : ∃ a, (rdK l).1.2.2 = a := ⟨_, rfl⟩
  have kk : (rdK l).2.2 = 0 → (0 ≤ t ∧ 0 ≤ v ∧ 0 ≤ a) ∧ Told l [t, v, a] (rdK l).2 := by
    intro h
    obtain ⟨a1, a2, a3⟩ := k3 h
    obtain ⟨b1, b2, b3⟩ := k2 a1
    obtain ⟨c1, c2, c3⟩ := k1 b1
    subst ht hv ha
    exact ⟨⟨c2.1, b2.1, a2.1⟩, a3⟩
  have gt : (rdTs l).2.2 = 0 → _ := fun h => goK_told (er := erS) (f := rdT l) (s := (rdK l).2) (fun ts s => Told l ([t, v, a] ++ ts.flatMap numsT) s) (fun z => by simpa using (kk z).2)
    (fun ts s hs hf => by
      obtain ⟨c1, c2⟩ := Told.t hl hs hf
      exact ⟨c1, by rw [List.flatMap_append, ← List.append_assoc]; simpa using c2⟩) (rdK l).1.1.toNat h
  have gv : (rdVs l).2.2.2 = 0 → _ := fun h => goK_told (er := erV) (f := rdV l) (s := ((0, 0), (rdTs l).2)) (fun vs s => s.1 = lastXY vs ∧ Told l ([t, v, a] ++ (rdTs l).1.flatMap numsT ++ numsV 0 0 vs) s.2)
    (fun z => ⟨rfl, by simp only [numsV, List.append_nil]; exact (gt z).2.1⟩)
    (fun vs s hs hf => by
      obtain ⟨c1, c2⟩ := Told.v hl (fun z => (hs z).2) hf
      have hx := (hs c1).1
      refine ⟨c1, by rw [lastXY_snoc]; rfl, ?_⟩
      rw [numsV_snoc, ← List.append_assoc]
      have e : ((0, 0) :: vs.map fun u => (u.1, u.2.1)).getLast (by simp) = s.1 := hx.symm
      rw [e]
      exact c2) (rdK l).1.2.1.toNat h
  obtain ⟨a0, a1, a2⟩ := goK_told (er := erS) (f := rdA l) (s := (rdVs l).2.2) (fun ys s => Told l ([t, v, a] ++ (rdTs l).1.flatMap numsT ++ numsV 0 0 (rdVs l).1 ++ ys.flatMap numsA) s)
    (fun z => by rw [List.flatMap_nil, List.append_nil]; exact (gv z).2.1.2)
    (fun ys s hs hf => by
      obtain ⟨c1, c2⟩ := Told.a hl hs hf
      exact ⟨c1, by rw [List.flatMap_append, ← List.append_assoc]; simpa using c2⟩) (rdK l).1.2.2.toNat he
  obtain ⟨v0, v1, v2⟩ := gv a0
  obtain ⟨t0, t1, t2⟩ := gt v0
  obtain ⟨⟨z1, z2, z3⟩, -⟩ := kk t0
  have lt : ((rdTs l).1.length : Int) = t := by
    have : (rdTs l).1.length = (rdK l).1.1.toNat := t2
    rw [this, ht]; omega
  have lv : ((rdVs l).1.length : Int) = v := by
    have : (rdVs l).1.length = (rdK l).1.2.1.toNat := v2
    rw [this, hv]; omega
  have la : ((rdAs l).1.length : Int) = a := by
    have : (rdAs l).1.length = (rdK l).1.2.2.toNat := a2
    rw [this, ha]; omega
  have b1 : l.take (rdAs l).2.1 = encs ([t, v, a] ++ (rdTs l).1.flatMap numsT ++ numsV 0 0 (rdVs l).1 ++ (rdAs l).1.flatMap numsA) := a1.2
  rw [List.take_of_length_le (by omega)] at b1
  conv => rhs; rw [b1]
  unfold numsN rdN
  simp only [lt, lv, la]
  simp
theorem file_parse {b : List Int} (hb : In8 b) (h : (parseF b).2.2 = 0) : (chkN (parseF b).1).2 = 0 ∧ fileN (parseF b).1 = b ∧ b.length ≤ 65536 := by
  unfold parseF at h ⊢
  by_cases h1 : 65536 < b.length
  · rw [if_pos h1] at h; simp at h
  rw [if_neg h1] at h ⊢
  by_cases h2 : b.length < 8
  · rw [if_pos h2] at h; simp at h
  rw [if_neg h2] at h ⊢
  by_cases h3 : sumB (b.take (b.length - 4)) ≠ b.drop (b.length - 4)
  · rw [if_pos h3] at h; simp at h
  rw [if_neg h3] at h ⊢
  by_cases h4 : b.take 4 ≠ markL
  · rw [if_pos h4] at h; simp at h
  rw [if_neg h4] at h ⊢
  obtain ⟨l, hl⟩ : ∃ l, (b.take (b.length - 4)).drop 4 = l := ⟨_, rfl⟩
  rw [hl] at h ⊢
  by_cases h5 : (rdAs l).2.2 ≠ 0
  · rw [if_pos h5] at h; exact absurd h h5
  rw [if_neg h5] at h ⊢
  by_cases h6 : (rdAs l).2.1 < l.length
  · rw [if_pos h6] at h; simp at h
  rw [if_neg h6] at h ⊢
  by_cases h7 : (chkN (rdN l)).2 ≠ 0
  · rw [if_pos h7] at h; exact absurd h h7
  rw [if_neg h7]
  have hl8 : In8 l := by rw [← hl]; exact (hb.take _).drop _
  have e1 := nums_rdN hl8 (by simpa using h5) h6
  have e4 : b.take 4 = markL := by simpa using h4
  have e5 : markL ++ l = b.take (b.length - 4) := by
    rw [← hl, ← e4]
    have : (b.take (b.length - 4)).take 4 = b.take 4 := by rw [List.take_take, Nat.min_eq_left (by omega)]
    rw [← this, List.take_append_drop]
  refine ⟨by simpa using h7, ?_, by omega⟩
  show bodyN (rdN l) ++ sumB (bodyN (rdN l)) = b
  unfold bodyN
  rw [e1, e5]
  have e6 : sumB (b.take (b.length - 4)) = b.drop (b.length - 4) := by simpa using h3
  rw [e6, List.take_append_drop]

end Go.Proofs.YtjapdbegfanfiaaGreatDoor

/-
  What is read stays within its bounds. Plain maths.
-/
namespace Go.Proofs.YtjapdbegfanfiaaGreatDoor

theorem rdU_in {l : List Int} (h8 : In8 l) (M : Int) (s : RSt) (hM : 0 ≤ M) : 0 ≤ (rdU l M s).1 ∧ (rdU l M s).1 ≤ M := by
  unfold rdU uR
  by_cases he : s.2 = 0
  · rw [if_pos he]
    by_cases h1 : (rd (l.drop s.1)).2.2 = 0
    · rw [if_pos h1]
      obtain ⟨u0, -⟩ := rd_once (h8.drop s.1) h1
      by_cases h2 : M < (rd (l.drop s.1)).1
      · rw [if_pos h2]; exact ⟨Int.le_refl _, hM⟩
      · rw [if_neg h2]; exact ⟨u0, by show (rd (l.drop s.1)).1 ≤ M; omega⟩
    · rw [if_neg h1]; exact ⟨Int.le_refl _, hM⟩
  · rw [if_neg he]; exact ⟨Int.le_refl _, hM⟩
theorem unf_amt {u : Int} (h : 0 ≤ u) {M : Int} (hM : ¬ M < amtZ u) : -M ≤ unfZ u ∧ unfZ u ≤ M := by
  unfold amtZ at hM
  unfold unfZ
  split <;> omega
theorem rdI_in {l : List Int} (h8 : In8 l) (M : Int) (s : RSt) (hM : 0 ≤ M) : -M ≤ (rdI l M s).1 ∧ (rdI l M s).1 ≤ M := by
  unfold rdI iR
  by_cases he : s.2 = 0
  · rw [if_pos he]
    by_cases h1 : (rd (l.drop s.1)).2.2 = 0
    · rw [if_pos h1]
      obtain ⟨u0, -⟩ := rd_once (h8.drop s.1) h1
      by_cases h2 : M < amtZ (rd (l.drop s.1)).1
      · rw [if_pos h2]; exact ⟨by show -M ≤ (0 : Int); omega, hM⟩
      · rw [if_neg h2]; exact unf_amt u0 h2
    · rw [if_neg h1]; exact ⟨by show -M ≤ (0 : Int); omega, hM⟩
  · rw [if_neg he]; exact ⟨by show -M ≤ (0 : Int); omega, hM⟩
theorem rdC_in {l : List Int} (h8 : In8 l) (s : RSt) : 0 ≤ (rdC l s).1 ∧ (rdC l s).1 ≤ 1152921504606846976 := by
  have h := rdU_in h8 2147483649 s (by omega)
  unfold rdC unpz
  show 0 ≤ (if (rdU l 2147483649 s).1 = 0 then (1152921504606846976 : Int) else (rdU l 2147483649 s).1 - 1) ∧ _ ≤ _
  by_cases h0 : (rdU l 2147483649 s).1 = 0
  · simp only [if_pos h0]; omega
  · simp only [if_neg h0]; omega
theorem goK_each {σ α : Type} {er : σ → Int} {f : σ → α × σ} (Pr : α → Prop) (hf : ∀ s, Pr (f s).1) (s : σ) : ∀ k, ∀ x ∈ (goK er f s k).1, Pr x
  | 0, _, h => by cases h
  | k + 1, x, h => by
    by_cases he : er (goK er f s k).2 = 0
    · rw [goK_step he] at h
      rcases List.mem_append.1 h with h | h
      · exact goK_each Pr hf s k x h
      · rw [List.mem_singleton.1 h]; exact hf _
    · rw [goK_stop he 1] at h
      exact goK_each Pr hf s k x h
theorem goK_len {σ α : Type} {er : σ → Int} {f : σ → α × σ} (s : σ) : ∀ k, (goK er f s k).1.length ≤ k
  | 0 => Nat.le_refl _
  | k + 1 => by
    have ih := goK_len (er := er) (f := f) s k
    by_cases he : er (goK er f s k).2 = 0
    · rw [goK_step he, List.length_append]
      show _ + 1 ≤ _
      omega
    · rw [goK_stop he 1]
      omega
/-- A table's bounds. -/
def TIn (t : Tab) : Prop := (0 ≤ t.1 ∧ t.1 ≤ 16) ∧ (0 ≤ t.2.1 ∧ t.2.1 ≤ 16) ∧ t.2.2.length ≤ 256 ∧ ∀ c ∈ t.2.2, 0 ≤ c ∧ c ≤ 1152921504606846976
theorem rdT_in {l : List Int} (h8 : In8 l) (s : RSt) : TIn (rdT l s).1 := by
  have h1 := rdU_in h8 16 s (by omega)
  have h2 := rdU_in h8 16 (rdU l 16 s).2 (by omega)
  refine ⟨h1, h2, Nat.le_trans (goK_len _ _) ?_, goK_each _ (fun s => rdC_in h8 s) _ _⟩
  have h3 : (rdU l 16 s).1 * (rdU l 16 (rdU l 16 s).2).1 ≤ 16 * 16 := Int.mul_le_mul h1.2 h2.2 h2.1 (by omega)
  omega
/-- Where k vertices may stand. -/
def VIn (k : Int) (v : Tri) : Prop := (-(2097152 * k) ≤ v.1 ∧ v.1 ≤ 2097152 * k) ∧ (-(2097152 * k) ≤ v.2.1 ∧ v.2.1 ≤ 2097152 * k) ∧ 0 ≤ v.2.2 ∧ v.2.2 ≤ 16384
theorem VIn.mono {k m : Int} {v : Tri} (h : VIn k v) (hk : k ≤ m) : VIn m v := by
  obtain ⟨h1, h2, h3⟩ := h
  exact ⟨by omega, by omega, h3⟩
theorem rdV_in {l : List Int} (h8 : In8 l) (s0 : RSt) : ∀ k : Nat, (∀ v ∈ (goK erV (rdV l) ((0, 0), s0) k).1, VIn k v) ∧ ((-(2097152 * (k : Int)) ≤ (goK erV (rdV l) ((0, 0), s0) k).2.1.1 ∧ (goK erV (rdV l) ((0, 0), s0) k).2.1.1 ≤ 2097152 * (k : Int)) ∧ -(2097152 * (k : Int)) ≤ (goK erV (rdV l) ((0, 0), s0) k).2.1.2 ∧ (goK erV (rdV l) ((0, 0), s0) k).2.1.2 ≤ 2097152 * (k : Int))
  | 0 => ⟨fun _ h => (by cases h), by simp [goK]⟩
  | k + 1 => by
    obtain ⟨h1, h2, h3⟩ := rdV_in h8 s0 k
    have hk : ((k + 1 : Nat) : Int) = (k : Int) + 1 := by omega
    rw [hk]
    by_cases he : erV (goK erV (rdV l) ((0, 0), s0) k).2 = 0
    · rw [goK_step he]
      obtain ⟨s, hs⟩ : ∃ s, (goK erV (rdV l) ((0, 0), s0) k).2 = s := ⟨_, rfl⟩
      rw [hs] at h2 h3 ⊢
      have d1 := rdI_in h8 2097152 s.2 (by omega)
      have d2 := rdI_in h8 2097152 (rdI l 2097152 s.2).2 (by omega)
      have d3 := rdU_in h8 16384 (rdI l 2097152 (rdI l 2097152 s.2).2).2 (by omega)
      have b1 : -(2097152 * ((k : Int) + 1)) ≤ s.1.1 + (rdI l 2097152 s.2).1 ∧ s.1.1 + (rdI l 2097152 s.2).1 ≤ 2097152 * ((k : Int) + 1) := by omega
      have b2 : -(2097152 * ((k : Int) + 1)) ≤ s.1.2 + (rdI l 2097152 (rdI l 2097152 s.2).2).1 ∧ s.1.2 + (rdI l 2097152 (rdI l 2097152 s.2).2).1 ≤ 2097152 * ((k : Int) + 1) := by omega
      refine ⟨fun v hv => ?_, b1, b2⟩
      rcases List.mem_append.1 hv with hv | hv
      · exact (h1 v hv).mono (by omega)
      · rw [List.mem_singleton.1 hv]
        exact ⟨b1, b2, d3⟩
    · rw [goK_stop he 1]
      exact ⟨fun v hv => (h1 v hv).mono (by omega), by omega, by omega⟩
/-- An arc's bounds. -/
def AIn (a : Tri) : Prop := (0 ≤ a.1 ∧ a.1 ≤ 16384) ∧ (0 ≤ a.2.1 ∧ a.2.1 ≤ 16384) ∧ 0 ≤ a.2.2 ∧ a.2.2 ≤ 1152921504606846976
theorem rdA_in {l : List Int} (h8 : In8 l) (s : RSt) : AIn (rdA l s).1 := ⟨rdU_in h8 16384 s (by omega), rdU_in h8 16384 (rdU l 16384 s).2 (by omega), rdC_in h8 _⟩
theorem rdK_in {l : List Int} (h8 : In8 l) : (0 ≤ (rdK l).1.1 ∧ (rdK l).1.1 ≤ 256) ∧ (0 ≤ (rdK l).1.2.1 ∧ (rdK l).1.2.1 ≤ 4096) ∧ 0 ≤ (rdK l).1.2.2 ∧ (rdK l).1.2.2 ≤ 16384 :=
  ⟨rdU_in h8 256 (0, 0) (by omega), rdU_in h8 4096 (rdU l 256 (0, 0)).2 (by omega), rdU_in h8 16384 (rdU l 4096 (rdU l 256 (0, 0)).2).2 (by omega)⟩
theorem rdN_small {l : List Int} (h8 : In8 l) : (rdN l).v.length ≤ 4096 ∧ (rdN l).a.length ≤ 16384 ∧ (rdN l).t.length ≤ 256 := by
  obtain ⟨h1, h2, h3⟩ := rdK_in h8
  refine ⟨Nat.le_trans (goK_len _ _) (by omega), Nat.le_trans (goK_len _ _) (by omega), Nat.le_trans (goK_len _ _) (by omega)⟩
theorem rdN_in {l : List Int} (h8 : In8 l) : InNet (rdN l) := by
  obtain ⟨h1, h2, h3⟩ := rdK_in h8
  refine ⟨fun x hx => ?_, fun x hx => ?_, fun t ht => ?_⟩
  · obtain ⟨a1, a2, a3⟩ := (rdV_in h8 (rdTs l).2 (rdK l).1.2.1.toNat).1 x hx
    omega
  · obtain ⟨a1, a2, a3⟩ := goK_each AIn (rdA_in h8) _ _ x hx
    omega
  · obtain ⟨a1, a2, a3, a4⟩ := goK_each TIn (rdT_in h8) _ _ t ht
    exact ⟨by omega, by omega, fun c hc => by have := a4 c hc; omega⟩
theorem rdN_costs {l : List Int} (h8 : In8 l) : ∀ t ∈ (rdN l).t, t.2.2.length ≤ 256 := fun t ht => (goK_each TIn (rdT_in h8) _ _ t ht).2.2.1

end Go.Proofs.YtjapdbegfanfiaaGreatDoor

/-
  The program's file.Parse: its reads of numbers, of costs, of arcs; its loops.
-/
namespace Go.Proofs.YtjapdbegfanfiaaGreatDoor
open Go.RowKit

theorem U8at.low {w w' : World} {B x : Nat} {v : Value} {l : List Int} (h : U8at w v l x) (hb : Below B w w') (hx : l = [] ∨ x < B) : U8at w' v l x := by
  rcases h with h | ⟨h1, o, c, h2, h3, rfl, h5, h6⟩
  · exact Or.inl h
  · rcases hx with rfl | hx
    · exact Or.inl ⟨rfl, _, _, rfl, fun h => by cases h⟩
    · exact Or.inr ⟨h1, o, c, h2, h3, rfl, Nat.lt_of_lt_of_le h5 hb.size, fun i hi => (hb.cell (p := ⟨x, o + i, none⟩) hx).trans (h6 i hi)⟩
theorem RdV.low {w w' : World} {B lo b a : Nat} {l : List Int} {e : Int} (h : RdV w lo b l a e) (hb : Below B w w') (hB : b < B) : RdV w' lo b l a e := by
  obtain ⟨q, c, x, h⟩ := h
  exact ⟨q, c, x, h.blk.carry hb hB, h.row.low hb (h.apart.imp id (fun h => by omega)), h.apart, h.in8, h.le, h.few, h.lo⟩
theorem RdV.in8 {w : World} {lo b a : Nat} {l : List Int} {e : Int} (h : RdV w lo b l a e) : In8 l := by
  obtain ⟨q, c, x, h⟩ := h
  exact h.in8
/-- Old blocks but b, where what is made may be written on. -/
theorem But.on {b B : Nat} {w w' w'' : World} (h : But b w w') (hb : Below B w' w'') (hB : w.heap.size ≤ B) : But b w w'' :=
  ⟨hb.os.trans h.os, hb.tape.trans h.tape, hb.output.trans h.output, Nat.le_trans h.size hb.size, fun k hk hne => (hb.block k (by omega)).trans (h.block k hk hne)⟩
theorem grown_low {W w' : World} {base : Nat} {e : TypeId} {size n : Nat} {v : Value} {xs : List Value} (h : W.ownsRow base e size v n xs) (hg : W.grownBy w' v.ownBlock) (hb : base ≤ W.heap.size) : Below base W w' :=
  below_grown8 (Below.refl _ _) hb hg (own8_ge h)
/-- What a read answers. -/
def RPost (k : IntKind) (V : Int) (w : World) (lo b : Nat) (l : List Int) (a' : Nat) (e' : Int) (ev : Ending) (w' : World) : Prop := ev = .returned (.int k V) ∧ RdV w' lo b l a' e' ∧ But b w w'
theorem wrap_small {V : Int} (h0 : -9223372036854775808 ≤ V) (h1 : V ≤ 9223372036854775807) : IntKind.i64.wrap V = V := by simp [IntKind.wrap, IntKind.bits, IntKind.signed]; omega

set_option maxRecDepth 100000 in
set_option maxHeartbeats 4000000 in
theorem vPlain {w : World} {lo b a a' : Nat} {l : List Int} {e e' M V : Int} (h : RdV w lo b l a e) (hr : uintR l a e M = (V, a', e')) (hM0 : 0 ≤ M) (hM : M ≤ 9223372036854775807) :
    Calls Tryz.prog 53 #[rp b, .int .u64 M] w (RPost .i64 V w lo b l a' e') := by
  have hV := uintR_in h.in8 a e M hM0
  rw [hr] at hV
  have hV0 : 0 ≤ V := hV.1
  have hV1 : V ≤ M := hV.2
  have hw : IntKind.i64.wrap V = V := wrap_small (by omega) (by omega)
  have HH := Lib.hid h
  clear h hV
  go_enter Tryz.func53, Tryz.ntmps53
  go_wp2_with fail
  refine (vU HH.out hr).mono ?_
  rintro ev w1 ⟨rfl, h1, hb⟩
  have HR := Lib.hid (show RPost .i64 V w lo b l a' e' (.returned (.int .i64 V)) w1 from ⟨rfl, h1, hb⟩)
  clear h1 hb HH hr
  go_wp2_with fail
  go_ret
  exact HR.out

set_option maxRecDepth 100000 in
set_option maxHeartbeats 4000000 in
theorem vStep {w : World} {lo b a a' : Nat} {l : List Int} {e e' V : Int} (h : RdV w lo b l a e) (hr : intR l a e 2097152 = (V, a', e')) :
    Calls Tryz.prog 88 #[rp b] w (RPost .i64 V w lo b l a' e') := by
  have HH := Lib.hid h
  clear h
  go_enter Tryz.func88, Tryz.ntmps88
  go_wp2_with fail
  refine (vI HH.out hr).mono ?_
  rintro ev w1 ⟨rfl, h1, hb⟩
  have HR := Lib.hid (show RPost .i64 V w lo b l a' e' (.returned (.int .i64 V)) w1 from ⟨rfl, h1, hb⟩)
  clear h1 hb HH hr
  go_wp2_with fail
  go_ret
  exact HR.out

set_option maxRecDepth 100000 in
set_option maxHeartbeats 4000000 in
theorem vCostP {w : World} {lo b a a' : Nat} {l : List Int} {e e' V : Int} (h : RdV w lo b l a e) (hr : rdC l (a, e) = (V, a', e')) :
    Calls Tryz.prog 85 #[rp b] w (RPost .i64 V w lo b l a' e') := by
  obtain ⟨U, ua, ue, hu⟩ : ∃ U ua ue, rdU l 2147483649 (a, e) = (U, ua, ue) := ⟨_, _, _, rfl⟩
  have hV : V = unpz U ∧ ua = a' ∧ ue = e' := by
    unfold rdC at hr
    rw [hu] at hr
    simp only [Prod.mk.injEq] at hr
    exact ⟨hr.1.symm, hr.2.1, hr.2.2⟩
  obtain ⟨hV, rfl, rfl⟩ := hV
  have hb := rdU_in h.in8 2147483649 (a, e) (by omega)
  rw [hu] at hb
  have hb0 : 0 ≤ U := hb.1
  have hb1 : U ≤ 2147483649 := hb.2
  have hu' : uintR l a e 2147483649 = (U, ua, ue) := hu
  have hw : IntKind.i64.wrap U = U := wrap_small (by omega) (by omega)
  have HH := Lib.hid h
  have HV := Lib.hid hV
  clear h hb hu hr hV
  go_enter Tryz.func85, Tryz.ntmps85
  go_wp2_with fail
  refine (vU HH.out hu').mono ?_
  rintro ev w1 ⟨rfl, h1, hb⟩
  have HR := Lib.hid (show RdV w1 lo b l ua ue ∧ But b w w1 from ⟨h1, hb⟩)
  clear h1 hb HH hu'
  by_cases h0 : U = 0
  · have hUb : (U == 0) = true := by simp [h0]
    have hVV : V = 1152921504606846976 := by rw [HV.out]; unfold unpz; rw [if_pos h0]
    clear h0
    subst hVV
    go_wp2_with fail
    go_ret
    exact ⟨rfl, HR.out⟩
  · have hUb : (U == 0) = false := by simpa using h0
    have hVV : V = U - 1 := by rw [HV.out]; unfold unpz; rw [if_neg h0]
    subst hVV
    go_wp2_with fail
    go_ret
    exact ⟨rfl, HR.out⟩

/-- What the read of a struct of three numbers answers. -/
def SPost (X : Tri) (w : World) (lo b : Nat) (l : List Int) (a' : Nat) (e' : Int) (ev : Ending) (w' : World) : Prop := ev = .returned (.agg #[.int .i64 X.1, .int .i64 X.2.1, .int .i64 X.2.2]) ∧ RdV w' lo b l a' e' ∧ But b w w'
set_option maxRecDepth 100000 in
set_option maxHeartbeats 4000000 in
theorem vArc {w : World} {lo b a a' : Nat} {l : List Int} {e e' : Int} {X : Tri} (h : RdV w lo b l a e) (hr : rdA l (a, e) = (X, a', e')) :
    Calls Tryz.prog 58 #[rp b] w (SPost X w lo b l a' e') := by
  obtain ⟨fr, xa, xe, e1⟩ : ∃ V a1 e1, rdU l 16384 (a, e) = (V, a1, e1) := ⟨_, _, _, rfl⟩
  obtain ⟨tt, ya, ye, e2⟩ : ∃ V a1 e1, rdU l 16384 (xa, xe) = (V, a1, e1) := ⟨_, _, _, rfl⟩
  obtain ⟨cw, na, ne, e3⟩ : ∃ V a1 e1, rdC l (ya, ye) = (V, a1, e1) := ⟨_, _, _, rfl⟩
  have hC : rdA l (a, e) = ((fr, tt, cw), (na, ne)) := by
    unfold rdA
    simp only [e1, e2, e3]
  rw [hC] at hr
  simp only [Prod.mk.injEq] at hr
  obtain ⟨rfl, rfl, rfl⟩ := hr
  have hlt := h.lt.2.1
  have HH := Lib.hid (h.below (below_new8 (.cells #[.int .i64 0, .int .i64 0, .int .i64 0] 94)))
  have hu1 : uintR l a e 16384 = (fr, xa, xe) := e1
  have hu2 : uintR l xa xe 16384 = (tt, ya, ye) := e2
  have HB0 : Hid (But b w (w.alloc (.cells #[.int .i64 0, .int .i64 0, .int .i64 0] 94))) := Lib.hid (But.of_below (below_new8 _))
  have HK0 : Hid (Blk (w.alloc (.cells #[.int .i64 0, .int .i64 0, .int .i64 0] 94)) w.heap.size #[.int .i64 0, .int .i64 0, .int .i64 0] 94) := Lib.hid (Blk.new _ _ _ _ rfl)
  clear h hC e1 e2
  go_enter Tryz.func58, Tryz.ntmps58
  go_wp2_with fail
  refine (vPlain HH.out hu1 (by omega) (by omega)).mono ?_
  rintro ev w1 ⟨rfl, h1, hb⟩
  have HR1 := Lib.hid h1
  have HB1 := Lib.hid (HB0.out.trans hb)
  have HK1 := Lib.hid (hb.blk HK0.out (by omega))
  clear h1 hb HH hu1 HB0 HK0
  go_wp2_with fail
  refine (vPlain HR1.out hu2 (by omega) (by omega)).mono ?_
  rintro ev w2 ⟨rfl, h1, hb⟩
  have HR2 := Lib.hid h1
  have HB2 := Lib.hid (HB1.out.trans hb)
  have HK2 := Lib.hid (hb.blk HK1.out (by omega))
  clear h1 hb HR1 hu2 HB1 HK1
  go_wp2_with fail
  refine (vCostP HR2.out e3).mono ?_
  rintro ev w3 ⟨rfl, h1, hb⟩
  have HB3 := Lib.hid (HB2.out.trans hb)
  have HK3 := Lib.hid (hb.blk HK2.out (by omega))
  obtain ⟨r0, r1, r2, g0, g1, g2⟩ := HK3.out.o3
  have HF : Hid (SPost (fr, tt, cw) w lo b l na ne (.returned (.agg #[.int .i64 fr, .int .i64 tt, .int .i64 cw])) (((w3.setCell ⟨w.heap.size, 0, none⟩ (.int .i64 fr)).setCell ⟨w.heap.size, 1, none⟩ (.int .i64 tt)).setCell ⟨w.heap.size, 2, none⟩ (.int .i64 cw))) := by
    have hx : Below w.heap.size w3 (((w3.setCell ⟨w.heap.size, 0, none⟩ (.int .i64 fr)).setCell ⟨w.heap.size, 1, none⟩ (.int .i64 tt)).setCell ⟨w.heap.size, 2, none⟩ (.int .i64 cw)) := by
      iterate 3 (refine Below.setCell ?_ (by simp only []; omega) _)
      exact Below.refl _ _
    exact Lib.hid ⟨rfl, h1.low hx hlt, HB3.out.on hx (Nat.le_refl _)⟩
  clear h1 hb HR2 e3 HB2 HK2 HB3 HK3
  go_wp2_with fail
  exact bodyPost_ret (v := .agg #[.int .i64 fr, .int .i64 tt, .int .i64 cw]) (by simp [results, Tryz.results58, go_sem]; go_simp) rfl HF.out

end Go.Proofs.YtjapdbegfanfiaaGreatDoor
