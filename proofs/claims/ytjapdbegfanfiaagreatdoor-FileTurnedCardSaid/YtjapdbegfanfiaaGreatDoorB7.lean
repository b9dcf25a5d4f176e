/-
  A net in bytes: what tells it, what reads it, and that each undoes the other. Plain maths.
-/
import Derived.Test.YtjapdbegfanfiaaGreatDoorWireM
import Derived.Test.YtjapdbegfanfiaaGreatDoorA1
import Derived.Test.YtjapdbegfanfiaaGreatDoorW6R
namespace Go.Proofs.YtjapdbegfanfiaaGreatDoor

def fileB : ByteArray := ⟨#[102, 105, 108, 101]⟩
def byteF : ByteArray := ⟨#[98, 121, 116, 101]⟩
/-- A cost as a number, and back. -/
def pz (c : Int) : Int := if c = 1152921504606846976 then 0 else c + 1
def unpz (v : Int) : Int := if v = 0 then 1152921504606846976 else v - 1
theorem pz_in {c : Int} (h : wgt c = true) : 0 ≤ pz c ∧ pz c ≤ 2147483649 := by
  unfold wgt at h
  unfold pz
  simp at h
  split <;> omega
theorem unpz_pz {c : Int} (h : wgt c = true) : unpz (pz c) = c := by
  unfold wgt at h
  unfold pz unpz
  simp at h
  by_cases h1 : c = 1152921504606846976
  · rw [if_pos h1, if_pos rfl, h1]
  · rw [if_neg h1, if_neg (by omega)]; omega
theorem pz_unpz {v : Int} (h0 : 0 ≤ v) (h1 : v ≤ 2147483649) : pz (unpz v) = v ∧ wgt (unpz v) = true := by
  unfold pz unpz wgt
  by_cases h : v = 0
  · rw [if_pos h, if_pos rfl, h]; exact ⟨rfl, by decide⟩
  · rw [if_neg h, if_neg (by omega)]
    exact ⟨by omega, by simp; omega⟩

/-! ### the numbers of a net -/
def numsT (t : Tab) : List Int := t.1 :: t.2.1 :: t.2.2.map pz
def numsV : Int → Int → List Tri → List Int
  | _, _, [] => []
  | x, y, v :: r => foldZ (v.1 - x) :: foldZ (v.2.1 - y) :: v.2.2 :: numsV v.1 v.2.1 r
def numsA (a : Tri) : List Int := [a.1, a.2.1, pz a.2.2]
def numsN (n : NetD) : List Int := (n.t.length : Int) :: (n.v.length : Int) :: (n.a.length : Int) :: (n.t.flatMap numsT ++ (numsV 0 0 n.v ++ n.a.flatMap numsA))
def markL : List Int := [82, 78, 68, 49]
def bodyN (n : NetD) : List Int := markL ++ encs (numsN n)
def fileN (n : NetD) : List Int := bodyN n ++ sumB (bodyN n)
theorem sumB_len (l : List Int) : (sumB l).length = 4 := rfl
theorem fileN_len (n : NetD) : (fileN n).length = (bodyN n).length + 4 := by unfold fileN; rw [List.length_append, sumB_len]
theorem bodyN_len (n : NetD) : (bodyN n).length = 4 + (encs (numsN n)).length := by unfold bodyN; rw [List.length_append]; rfl

/-! ### reading: a state is a place and an error -/
abbrev RSt := Nat × Int
def uR (l : List Int) (a : Nat) (e : Int) (M : Int) : Int × RSt :=
  if e = 0 then (if (rd (l.drop a)).2.2 = 0 then (if M < (rd (l.drop a)).1 then (0, a, 8) else ((rd (l.drop a)).1, a + (rd (l.drop a)).2.1, 0)) else (0, a, (rd (l.drop a)).2.2)) else (0, a, e)
def iR (l : List Int) (a : Nat) (e : Int) (M : Int) : Int × RSt :=
  if e = 0 then (if (rd (l.drop a)).2.2 = 0 then (if M < amtZ (rd (l.drop a)).1 then (0, a, 8) else (unfZ (rd (l.drop a)).1, a + (rd (l.drop a)).2.1, 0)) else (0, a, (rd (l.drop a)).2.2)) else (0, a, e)
def rdU (l : List Int) (M : Int) (s : RSt) : Int × RSt := uR l s.1 s.2 M
def rdI (l : List Int) (M : Int) (s : RSt) : Int × RSt := iR l s.1 s.2 M
def rdC (l : List Int) (s : RSt) : Int × RSt := (unpz (rdU l 2147483649 s).1, (rdU l 2147483649 s).2)
/-- A loop of k rounds that stops where something is wrong. -/
def goK {σ α : Type} (er : σ → Int) (f : σ → α × σ) (s : σ) : Nat → List α × σ
  | 0 => ([], s)
  | k + 1 => if er (goK er f s k).2 = 0 then ((goK er f s k).1 ++ [(f (goK er f s k).2).1], (f (goK er f s k).2).2) else goK er f s k
def erS (s : RSt) : Int := s.2
def erV (s : (Int × Int) × RSt) : Int := s.2.2
def rdT (l : List Int) (s : RSt) : Tab × RSt :=
  (((rdU l 16 s).1, (rdU l 16 (rdU l 16 s).2).1, (goK erS (rdC l) (rdU l 16 (rdU l 16 s).2).2 ((rdU l 16 s).1 * (rdU l 16 (rdU l 16 s).2).1).toNat).1),
    (goK erS (rdC l) (rdU l 16 (rdU l 16 s).2).2 ((rdU l 16 s).1 * (rdU l 16 (rdU l 16 s).2).1).toNat).2)
def rdV (l : List Int) (s : (Int × Int) × RSt) : Tri × ((Int × Int) × RSt) :=
  ((s.1.1 + (rdI l 2097152 s.2).1, s.1.2 + (rdI l 2097152 (rdI l 2097152 s.2).2).1, (rdU l 16384 (rdI l 2097152 (rdI l 2097152 s.2).2).2).1),
    ((s.1.1 + (rdI l 2097152 s.2).1, s.1.2 + (rdI l 2097152 (rdI l 2097152 s.2).2).1), (rdU l 16384 (rdI l 2097152 (rdI l 2097152 s.2).2).2).2))
def rdA (l : List Int) (s : RSt) : Tri × RSt :=
  (((rdU l 16384 s).1, (rdU l 16384 (rdU l 16384 s).2).1, (rdC l (rdU l 16384 (rdU l 16384 s).2).2).1), (rdC l (rdU l 16384 (rdU l 16384 s).2).2).2)
/-- The three counts. -/
def rdK (l : List Int) : (Int × Int × Int) × RSt :=
  (((rdU l 256 (0, 0)).1, (rdU l 4096 (rdU l 256 (0, 0)).2).1, (rdU l 16384 (rdU l 4096 (rdU l 256 (0, 0)).2).2).1), (rdU l 16384 (rdU l 4096 (rdU l 256 (0, 0)).2).2).2)
def rdTs (l : List Int) : List Tab × RSt := goK erS (rdT l) (rdK l).2 (rdK l).1.1.toNat
def rdVs (l : List Int) : List Tri × ((Int × Int) × RSt) := goK erV (rdV l) ((0, 0), (rdTs l).2) (rdK l).1.2.1.toNat
def rdAs (l : List Int) : List Tri × RSt := goK erS (rdA l) (rdVs l).2.2 (rdK l).1.2.2.toNat
def rdN (l : List Int) : NetD := ⟨(rdVs l).1, (rdAs l).1, (rdTs l).1⟩

theorem goK_stop {σ α : Type} {er : σ → Int} {f : σ → α × σ} {s : σ} {k : Nat} (h : ¬ er (goK er f s k).2 = 0) : ∀ j, goK er f s (k + j) = goK er f s k
  | 0 => rfl
  | j + 1 => by
    have ih := goK_stop h j
    rw [← Nat.add_assoc]
    show (if er (goK er f s (k + j)).2 = 0 then _ else goK er f s (k + j)) = _
    rw [ih, if_neg h]
theorem goK_step {σ α : Type} {er : σ → Int} {f : σ → α × σ} {s : σ} {k : Nat} (h : er (goK er f s k).2 = 0) : goK er f s (k + 1) = ((goK er f s k).1 ++ [(f (goK er f s k).2).1], (f (goK er f s k).2).2) := if_pos h

/-! ### what is told is read -/
/-- Of the numbers q those of r are still to come. -/
def Reads (q r : List Int) (s : RSt) : Prop := ∃ p, q = p ++ r ∧ s = ((encs p).length, 0)
def InQ (q : List Int) : Prop := ∀ v ∈ q, 0 ≤ v ∧ v ≤ 18446744073709551615
theorem Reads.er {q r : List Int} {s : RSt} (h : Reads q r s) : s.2 = 0 := by obtain ⟨p, -, rfl⟩ := h; rfl
theorem rd_at {q p r : List Int} {x : Int} (hq : InQ q) (h : q = p ++ x :: r) : rd ((encs q).drop (encs p).length) = (x, (enc x).length, 0) ∧ (encs (p ++ [x])).length = (encs p).length + (enc x).length := by
  have hx := hq x (by rw [h]; simp)
  have e : encs q = encs p ++ (enc x ++ encs r) := by rw [h, encs_append]; rfl
  rw [e, List.drop_left, rd_enc hx.1 hx.2, encs_snoc, List.length_append]
  exact ⟨rfl, rfl⟩
theorem Reads.u {q r : List Int} {x M : Int} {s : RSt} (hq : InQ q) (h : Reads q (x :: r) s) (hM : x ≤ M) : ∃ s', rdU (encs q) M s = (x, s') ∧ Reads q r s' := by
  obtain ⟨p, e, rfl⟩ := h
  obtain ⟨h1, h2⟩ := rd_at hq e
  refine ⟨((encs (p ++ [x])).length, 0), ?_, p ++ [x], by rw [e, List.append_assoc]; rfl, rfl⟩
  unfold rdU uR
  rw [if_pos rfl, h1, if_pos rfl, if_neg (by show ¬ M < x; omega), h2]
theorem Reads.i {q r : List Int} {x M : Int} {s : RSt} (hq : InQ q) (h : Reads q (foldZ x :: r) s) (hM : (if x < 0 then 0 - x else x) ≤ M) : ∃ s', rdI (encs q) M s = (x, s') ∧ Reads q r s' := by
  obtain ⟨p, e, rfl⟩ := h
  obtain ⟨h1, h2⟩ := rd_at hq e
  refine ⟨((encs (p ++ [foldZ x])).length, 0), ?_, p ++ [foldZ x], by rw [e, List.append_assoc]; rfl, rfl⟩
  unfold rdI iR
  rw [if_pos rfl, h1, if_pos rfl, if_neg (by show ¬ M < amtZ (foldZ x); rw [amtZ_foldZ]; omega), h2, unfZ_foldZ]
theorem Reads.c {q r : List Int} {c : Int} {s : RSt} (hq : InQ q) (hc : wgt c = true) (h : Reads q (pz c :: r) s) : ∃ s', rdC (encs q) s = (c, s') ∧ Reads q r s' := by
  obtain ⟨s', h1, h2⟩ := h.u hq (pz_in hc).2
  refine ⟨s', ?_, h2⟩
  unfold rdC
  rw [h1, unpz_pz hc]
theorem goK_reads {σ α : Type} {er : σ → Int} {f : σ → α × σ} (R : List α → σ → Prop) (her : ∀ l s, R l s → er s = 0) (hf : ∀ x r s, R (x :: r) s → ∃ s', f s = (x, s') ∧ R r s') {l : List α} {s : σ} (h : R l s) :
    ∀ k, k ≤ l.length → ∃ s', goK er f s k = (l.take k, s') ∧ R (l.drop k) s'
  | 0, _ => ⟨s, rfl, h⟩
  | k + 1, hk => by
    obtain ⟨s1, h1, h2⟩ := goK_reads R her hf h k (by omega)
    rw [List.drop_eq_getElem_cons (by omega)] at h2
    obtain ⟨s2, h3, h4⟩ := hf _ _ _ h2
    refine ⟨s2, ?_, h4⟩
    rw [goK_step (by rw [h1]; exact her _ _ h2), h1]
    simp only [h3]
    rw [List.take_succ_eq_append_getElem (by omega)]
theorem goK_all {σ α : Type} {er : σ → Int} {f : σ → α × σ} (R : List α → σ → Prop) (her : ∀ l s, R l s → er s = 0) (hf : ∀ x r s, R (x :: r) s → ∃ s', f s = (x, s') ∧ R r s') {l : List α} {s : σ} (h : R l s) {k : Nat} (hk : k = l.length) :
    ∃ s', goK er f s k = (l, s') ∧ R [] s' := by
  subst hk
  obtain ⟨s', h1, h2⟩ := goK_reads R her hf h l.length (Nat.le_refl _)
  rw [List.take_length] at h1
  rw [List.drop_length] at h2
  exact ⟨s', h1, h2⟩
theorem Reads.t {q r : List Int} {t : Tab} {s : RSt} (hq : InQ q) (hc : chkT t.1 t.2.1 t.2.2 = (0, 0)) (h : Reads q (numsT t ++ r) s) : ∃ s', rdT (encs q) s = (t, s') ∧ Reads q r s' := by
  obtain ⟨i0, i1, o0, o1, hn, hall⟩ := chkT_ok (by rw [hc])
  obtain ⟨s1, h1, h2⟩ := Reads.u (M := 16) hq h i1
  obtain ⟨s2, h3, h4⟩ := Reads.u (M := 16) hq h2 o1
  obtain ⟨s3, h5, h6⟩ := goK_all (er := erS) (f := rdC (encs q)) (fun cs s => (∀ c ∈ cs, wgt c = true) ∧ Reads q (cs.map pz ++ r) s) (fun _ _ h => h.2.er)
    (fun x l s h => by
      obtain ⟨s', h1, h2⟩ := Reads.c hq (h.1 x (List.mem_cons_self ..)) h.2
      exact ⟨s', h1, fun c hc => h.1 c (List.mem_cons_of_mem _ hc), h2⟩) (l := t.2.2) (s := s2) ⟨fun c hc => List.all_eq_true.1 hall c hc, h4⟩ (k := (t.1 * t.2.1).toNat) (by omega)
  refine ⟨s3, ?_, h6.2⟩
  unfold rdT
  simp only [h1, h3, h5]
theorem Reads.v {q r : List Int} {v : Tri} {s : (Int × Int) × RSt} (hq : InQ q) (hs : (-1048576 ≤ s.1.1 ∧ s.1.1 ≤ 1048576) ∧ -1048576 ≤ s.1.2 ∧ s.1.2 ≤ 1048576) (hv : (-1048576 ≤ v.1 ∧ v.1 ≤ 1048576) ∧ (-1048576 ≤ v.2.1 ∧ v.2.1 ≤ 1048576) ∧ v.2.2 ≤ 16384)
    (h : Reads q (foldZ (v.1 - s.1.1) :: foldZ (v.2.1 - s.1.2) :: v.2.2 :: r) s.2) : ∃ s', rdV (encs q) s = (v, (v.1, v.2.1), s') ∧ Reads q r s' := by
  obtain ⟨s1, h1, h2⟩ := h.i hq (M := 2097152) (by split <;> omega)
  obtain ⟨s2, h3, h4⟩ := h2.i hq (M := 2097152) (by split <;> omega)
  obtain ⟨s3, h5, h6⟩ := h4.u hq (M := 16384) hv.2.2
  refine ⟨s3, ?_, h6⟩
  have e1 : s.1.1 + (v.1 - s.1.1) = v.1 := by omega
  have e2 : s.1.2 + (v.2.1 - s.1.2) = v.2.1 := by omega
  unfold rdV
  simp only [h1, h3, h5, e1, e2]
theorem Reads.a {q r : List Int} {a : Tri} {s : RSt} (hq : InQ q) (ha : a.1 ≤ 16384 ∧ a.2.1 ≤ 16384 ∧ wgt a.2.2 = true) (h : Reads q (numsA a ++ r) s) : ∃ s', rdA (encs q) s = (a, s') ∧ Reads q r s' := by
  obtain ⟨s1, h1, h2⟩ := Reads.u (M := 16384) hq h ha.1
  obtain ⟨s2, h3, h4⟩ := Reads.u (M := 16384) hq h2 ha.2.1
  obtain ⟨s3, h5, h6⟩ := Reads.c hq ha.2.2 h4
  refine ⟨s3, ?_, h6⟩
  unfold rdA
  simp only [h1, h3, h5]

end Go.Proofs.YtjapdbegfanfiaaGreatDoor

/-
  The document's Reader: Int, Done, a cost; by values.
-/
namespace Go.Proofs.YtjapdbegfanfiaaGreatDoor
open Go.RowKit

theorem uint6_any {w : World} {lo b a : Nat} {l : List Int} {e : Int} (h : R6V w lo b l a e) (M : Int) : Calls Tryz.prog 28 #[rp b, .int .u64 M] w (U6Post .u64 (uintR l a e M) w lo b l) := by
  by_cases he : e = 0
  · subst he
    exact uint6_ok h M _ rfl
  · have hR : uintR l a e M = (0, a, e) := by unfold uintR; rw [if_neg he]
    rw [hR]
    exact uint6_err h he M
theorem v6U {w : World} {lo b a a' : Nat} {l : List Int} {e e' M V : Int} (h : R6V w lo b l a e) (hr : uintR l a e M = (V, a', e')) :
    Calls Tryz.prog 28 #[rp b, .int .u64 M] w fun ev w' => ev = .returned (.int .u64 V) ∧ R6V w' lo b l a' e' ∧ But b w w' := by
  refine (uint6_any h M).mono ?_
  rintro ev w' ⟨h1, h2, h3⟩
  rw [hr] at h1 h2
  exact ⟨h1, h2, h3⟩
/-- Its place, put back. -/
theorem R6V.back {w : World} {lo b a : Nat} {l : List Int} (h : R6V w lo b l a 0) (a' : Nat) (ha : a' ≤ l.length) : R6V (w.setCell ⟨b, 1, none⟩ (.int .i64 a')) lo b l a' 0 ∧ But b w (w.setCell ⟨b, 1, none⟩ (.int .i64 a')) := by
  obtain ⟨q, c, ⟨pv, hk, hp⟩, hrow, h8, hle, hf, hlo⟩ := h
  obtain rfl : pv = .slice none 0 0 := by
    rcases hp with ⟨_, h⟩ | ⟨h, _⟩
    · exact h
    · exact absurd rfl h
  have hbt : But b w (w.setCell ⟨b, 1, none⟩ (.int .i64 a')) := (But.refl b w).setCell _ _
  refine ⟨⟨q, c, ⟨.slice none 0 0, ?_, Or.inl ⟨rfl, rfl⟩⟩, hrow.but hbt hlo, h8, ha, hf, hlo⟩, hbt⟩
  have := hk.set 1 (.int .i64 a')
  simpa using this
/-- Its cells. -/
theorem R6V.cells {w : World} {lo b a : Nat} {l : List Int} {e : Int} (h : R6V w lo b l a e) : ∃ q c pv, Blk w b #[.slice q l.length c, .int .i64 a, pv, .int .i64 e] 74 := by
  obtain ⟨q, c, ⟨pv, hk, hp⟩, _⟩ := h
  exact ⟨q, c, pv, hk⟩

set_option maxRecDepth 100000 in
set_option maxHeartbeats 8000000 in
theorem int6_err {w : World} {lo b a a' : Nat} {l : List Int} {e e' : Int} (h : R6V w lo b l a e) (M : Int) (hu : uintR l a e 18446744073709551615 = (0, a', e')) (he : ¬ e' = 0) (R : Int × Nat × Int) (hR : R = (0, a', e')) : Calls Tryz.prog 30 #[rp b, .int .u64 M] w (U6Post .i64 R w lo b l) := by
  obtain ⟨-, -, -⟩ := h.lt
  have HR := Lib.hid h
  obtain ⟨q, c, pv, hk⟩ := h.cells
  obtain ⟨c0, c1, c2, c3, f0, f1, f2, f3⟩ := hk.o4
  clear h hk
  have hn : (e' != 0) = true := by simpa using he
  clear he
  go_enter Tryz.func30, Tryz.ntmps30
  go_wp2_with fail
  clear c0 c1 c2 c3 f0 f1 f2 f3
  refine (v6U HR.out hu).mono ?_
  rintro ev w1 ⟨rfl, hr, hb⟩
  have HR1 := Lib.hid hr
  have HB1 := Lib.hid hb
  obtain ⟨q', c', pv', hk⟩ := hr.cells
  obtain ⟨c0, c1, c2, c3, f0, f1, f2, f3⟩ := hk.o4
  clear hr hb hk
  go_wp2_with fail
  go_ret
  rw [hR]
  exact ⟨rfl, HR1.out, HB1.out⟩

set_option maxRecDepth 100000 in
set_option maxHeartbeats 8000000 in
theorem int6_11 {w : World} {lo b a a' : Nat} {l : List Int} {e : Int} (h : R6V w lo b l a e) (M : Int) {u D P : Int} (hu : uintR l a e 18446744073709551615 = (u, a', 0)) (hu0 : 0 ≤ u) (hu1 : u ≤ 18446744073709551615) (hD : u / 2 = D) (hP : u % 2 = P) (ho : P = 1) (hM : M < D + 1) (R : Int × Nat × Int) (hR : R = (0, a, 8)) : Calls Tryz.prog 30 #[rp b, .int .u64 M] w (U6Post .i64 R w lo b l) := by
  obtain ⟨-, hblt, hale⟩ := h.lt
  have HR := Lib.hid h
  obtain ⟨q, c, pv, hk⟩ := h.cells
  obtain ⟨c0, c1, c2, c3, f0, f1, f2, f3⟩ := hk.o4
  clear h hk
  have hd : u.tdiv 2 = D := by rw [Int.tdiv_eq_ediv_of_nonneg hu0, hD]
  have hm : u.tmod 2 = P := by rw [Int.tmod_eq_emod_of_nonneg hu0, hP]
  have hd0 : 0 ≤ D ∧ D ≤ 9223372036854775807 := by omega
  have hw1 : IntKind.i64.wrap D = D := by simp [IntKind.wrap, IntKind.bits, IntKind.signed]; omega
  have hw4 : IntKind.u64.wrap D = D := by simp [IntKind.wrap, IntKind.bits, IntKind.signed]; omega
  have dM : decide (M < D + 1) = true := decide_eq_true hM
  have hw2 : IntKind.i64.wrap (-1 - D) = -1 - D := by simp [IntKind.wrap, IntKind.bits, IntKind.signed]; omega
  have hw3 : IntKind.u64.wrap (D + 1) = D + 1 := by simp [IntKind.wrap, IntKind.bits, IntKind.signed]; omega
  subst ho
  clear hD hP hu0 hu1
  go_enter Tryz.func30, Tryz.ntmps30
  go_wp2_with fail
  clear c0 c1 c2 c3 f0 f1 f2 f3
  refine (v6U HR.out hu).mono ?_
  rintro ev w1 ⟨rfl, hr, hb⟩
  have HR1 := Lib.hid hr
  have HB1 := Lib.hid hb
  obtain ⟨q', c', pv', hk⟩ := hr.cells
  obtain ⟨c0, c1, c2, c3, f0, f1, f2, f3⟩ := hk.o4
  clear hr hb hk
  obtain ⟨hk1, hk2⟩ := HR1.out.back a hale
  have HK1 := Lib.hid hk1
  have HK2 := Lib.hid hk2
  clear hk1 hk2
  go_wp2_with fail
  refine (fail6 HK1.out 8 (by decide)).mono ?_
  rintro ev w2 ⟨rfl, hr, hb⟩
  have HF : Hid (U6Post .i64 (0, a, 8) w lo b l (.returned (.int .i64 0)) w2) := Lib.hid ⟨rfl, hr, (HB1.out.trans HK2.out).trans hb⟩
  clear hr hb
  go_wp2_with fail
  go_ret
  rw [hR]
  exact HF.out

set_option maxRecDepth 100000 in
set_option maxHeartbeats 8000000 in
theorem int6_10 {w : World} {lo b a a' : Nat} {l : List Int} {e : Int} (h : R6V w lo b l a e) (M : Int) {u D P : Int} (hu : uintR l a e 18446744073709551615 = (u, a', 0)) (hu0 : 0 ≤ u) (hu1 : u ≤ 18446744073709551615) (hD : u / 2 = D) (hP : u % 2 = P) (ho : P = 1) (hM : ¬ M < D + 1) (R : Int × Nat × Int) (hR : R = (-1 - D, a', 0)) : Calls Tryz.prog 30 #[rp b, .int .u64 M] w (U6Post .i64 R w lo b l) := by
  obtain ⟨-, hblt, hale⟩ := h.lt
  have HR := Lib.hid h
  obtain ⟨q, c, pv, hk⟩ := h.cells
  obtain ⟨c0, c1, c2, c3, f0, f1, f2, f3⟩ := hk.o4
  clear h hk
  have hd : u.tdiv 2 = D := by rw [Int.tdiv_eq_ediv_of_nonneg hu0, hD]
  have hm : u.tmod 2 = P := by rw [Int.tmod_eq_emod_of_nonneg hu0, hP]
  have hd0 : 0 ≤ D ∧ D ≤ 9223372036854775807 := by omega
  have hw1 : IntKind.i64.wrap D = D := by simp [IntKind.wrap, IntKind.bits, IntKind.signed]; omega
  have hw4 : IntKind.u64.wrap D = D := by simp [IntKind.wrap, IntKind.bits, IntKind.signed]; omega
  have dM : decide (M < D + 1) = false := decide_eq_false hM
  have hw2 : IntKind.i64.wrap (-1 - D) = -1 - D := by simp [IntKind.wrap, IntKind.bits, IntKind.signed]; omega
  have hw3 : IntKind.u64.wrap (D + 1) = D + 1 := by simp [IntKind.wrap, IntKind.bits, IntKind.signed]; omega
  subst ho
  clear hD hP hu0 hu1
  go_enter Tryz.func30, Tryz.ntmps30
  go_wp2_with fail
  clear c0 c1 c2 c3 f0 f1 f2 f3
  refine (v6U HR.out hu).mono ?_
  rintro ev w1 ⟨rfl, hr, hb⟩
  have HR1 := Lib.hid hr
  have HB1 := Lib.hid hb
  obtain ⟨q', c', pv', hk⟩ := hr.cells
  obtain ⟨c0, c1, c2, c3, f0, f1, f2, f3⟩ := hk.o4
  clear hr hb hk
  go_wp2_with fail
  go_ret
  rw [hR]
  exact ⟨rfl, HR1.out, HB1.out⟩

set_option maxRecDepth 100000 in
set_option maxHeartbeats 8000000 in
theorem int6_01 {w : World} {lo b a a' : Nat} {l : List Int} {e : Int} (h : R6V w lo b l a e) (M : Int) {u D P : Int} (hu : uintR l a e 18446744073709551615 = (u, a', 0)) (hu0 : 0 ≤ u) (hu1 : u ≤ 18446744073709551615) (hD : u / 2 = D) (hP : u % 2 = P) (ho : P = 0) (hM : M < D) (R : Int × Nat × Int) (hR : R = (0, a, 8)) : Calls Tryz.prog 30 #[rp b, .int .u64 M] w (U6Post .i64 R w lo b l) := by
  obtain ⟨-, hblt, hale⟩ := h.lt
  have HR := Lib.hid h
  obtain ⟨q, c, pv, hk⟩ := h.cells
  obtain ⟨c0, c1, c2, c3, f0, f1, f2, f3⟩ := hk.o4
  clear h hk
  have hd : u.tdiv 2 = D := by rw [Int.tdiv_eq_ediv_of_nonneg hu0, hD]
  have hm : u.tmod 2 = P := by rw [Int.tmod_eq_emod_of_nonneg hu0, hP]
  have hd0 : 0 ≤ D ∧ D ≤ 9223372036854775807 := by omega
  have hw1 : IntKind.i64.wrap D = D := by simp [IntKind.wrap, IntKind.bits, IntKind.signed]; omega
  have hw4 : IntKind.u64.wrap D = D := by simp [IntKind.wrap, IntKind.bits, IntKind.signed]; omega
  have dM : decide (M < D) = true := decide_eq_true hM
  subst ho
  clear hD hP hu0 hu1
  go_enter Tryz.func30, Tryz.ntmps30
  go_wp2_with fail
  clear c0 c1 c2 c3 f0 f1 f2 f3
  refine (v6U HR.out hu).mono ?_
  rintro ev w1 ⟨rfl, hr, hb⟩
  have HR1 := Lib.hid hr
  have HB1 := Lib.hid hb
  obtain ⟨q', c', pv', hk⟩ := hr.cells
  obtain ⟨c0, c1, c2, c3, f0, f1, f2, f3⟩ := hk.o4
  clear hr hb hk
  obtain ⟨hk1, hk2⟩ := HR1.out.back a hale
  have HK1 := Lib.hid hk1
  have HK2 := Lib.hid hk2
  clear hk1 hk2
  go_wp2_with fail
  refine (fail6 HK1.out 8 (by decide)).mono ?_
  rintro ev w2 ⟨rfl, hr, hb⟩
  have HF : Hid (U6Post .i64 (0, a, 8) w lo b l (.returned (.int .i64 0)) w2) := Lib.hid ⟨rfl, hr, (HB1.out.trans HK2.out).trans hb⟩
  clear hr hb
  go_wp2_with fail
  go_ret
  rw [hR]
  exact HF.out

set_option maxRecDepth 100000 in
set_option maxHeartbeats 8000000 in
theorem int6_00 {w : World} {lo b a a' : Nat} {l : List Int} {e : Int} (h : R6V w lo b l a e) (M : Int) {u D P : Int} (hu : uintR l a e 18446744073709551615 = (u, a', 0)) (hu0 : 0 ≤ u) (hu1 : u ≤ 18446744073709551615) (hD : u / 2 = D) (hP : u % 2 = P) (ho : P = 0) (hM : ¬ M < D) (R : Int × Nat × Int) (hR : R = (D, a', 0)) : Calls Tryz.prog 30 #[rp b, .int .u64 M] w (U6Post .i64 R w lo b l) := by
  obtain ⟨-, hblt, hale⟩ := h.lt
  have HR := Lib.hid h
  obtain ⟨q, c, pv, hk⟩ := h.cells
  obtain ⟨c0, c1, c2, c3, f0, f1, f2, f3⟩ := hk.o4
  clear h hk
  have hd : u.tdiv 2 = D := by rw [Int.tdiv_eq_ediv_of_nonneg hu0, hD]
  have hm : u.tmod 2 = P := by rw [Int.tmod_eq_emod_of_nonneg hu0, hP]
  have hd0 : 0 ≤ D ∧ D ≤ 9223372036854775807 := by omega
  have hw1 : IntKind.i64.wrap D = D := by simp [IntKind.wrap, IntKind.bits, IntKind.signed]; omega
  have hw4 : IntKind.u64.wrap D = D := by simp [IntKind.wrap, IntKind.bits, IntKind.signed]; omega
  have dM : decide (M < D) = false := decide_eq_false hM
  subst ho
  clear hD hP hu0 hu1
  go_enter Tryz.func30, Tryz.ntmps30
  go_wp2_with fail
  clear c0 c1 c2 c3 f0 f1 f2 f3
  refine (v6U HR.out hu).mono ?_
  rintro ev w1 ⟨rfl, hr, hb⟩
  have HR1 := Lib.hid hr
  have HB1 := Lib.hid hb
  obtain ⟨q', c', pv', hk⟩ := hr.cells
  obtain ⟨c0, c1, c2, c3, f0, f1, f2, f3⟩ := hk.o4
  clear hr hb hk
  go_wp2_with fail
  go_ret
  rw [hR]
  exact ⟨rfl, HR1.out, HB1.out⟩

theorem int6_any {w : World} {lo b a : Nat} {l : List Int} {e : Int} (h : R6V w lo b l a e) (M : Int) : Calls Tryz.prog 30 #[rp b, .int .u64 M] w (U6Post .i64 (intR l a e M) w lo b l) := by
  by_cases he : e = 0
  · subst he
    have h8 : In8 (l.drop a) := by obtain ⟨q, c, _, _, h8, _⟩ := h; exact h8.drop a
    by_cases h1 : (rd (l.drop a)).2.2 = 0
    · obtain ⟨u0, u1, -⟩ := rd_once h8 h1
      obtain ⟨u, hu⟩ : ∃ u, (rd (l.drop a)).1 = u := ⟨_, rfl⟩
      rw [hu] at u0 u1
      have hU : uintR l a 0 18446744073709551615 = (u, a + (rd (l.drop a)).2.1, 0) := by unfold uintR; rw [if_pos rfl, if_pos h1, hu, if_neg (by omega)]
      have hI : intR l a 0 M = if M < amtZ u then (0, a, 8) else (unfZ u, a + (rd (l.drop a)).2.1, 0) := by unfold intR; rw [if_pos rfl, if_pos h1, hu]
      have ha : amtZ u = if u % 2 = 1 then u / 2 + 1 else u / 2 := by unfold amtZ; split <;> omega
      rw [hI]
      by_cases ho : u % 2 = 1
      · have hz : unfZ u = -1 - u / 2 := by unfold unfZ; rw [if_pos ho]; omega
        rw [if_pos ho] at ha
        by_cases hM : M < u / 2 + 1
        · exact int6_11 h M hU u0 u1 rfl rfl ho hM _ (by rw [ha, if_pos hM])
        · exact int6_10 h M hU u0 u1 rfl rfl ho hM _ (by rw [ha, if_neg hM, hz])
      · have hz : unfZ u = u / 2 := by unfold unfZ; rw [if_neg ho]
        rw [if_neg ho] at ha
        by_cases hM : M < u / 2
        · exact int6_01 h M hU u0 u1 rfl rfl (by omega) hM _ (by rw [ha, if_pos hM])
        · exact int6_00 h M hU u0 u1 rfl rfl (by omega) hM _ (by rw [ha, if_neg hM, hz])
    · have hU : uintR l a 0 18446744073709551615 = (0, a, (rd (l.drop a)).2.2) := by unfold uintR; rw [if_pos rfl, if_neg h1]
      exact int6_err h M hU h1 _ (by unfold intR; rw [if_pos rfl, if_neg h1])
  · have hU : uintR l a e 18446744073709551615 = (0, a, e) := by unfold uintR; rw [if_neg he]
    exact int6_err h M hU he _ (by unfold intR; rw [if_neg he])
theorem v6I {w : World} {lo b a a' : Nat} {l : List Int} {e e' M V : Int} (h : R6V w lo b l a e) (hr : intR l a e M = (V, a', e')) :
    Calls Tryz.prog 30 #[rp b, .int .u64 M] w fun ev w' => ev = .returned (.int .i64 V) ∧ R6V w' lo b l a' e' ∧ But b w w' := by
  refine (int6_any h M).mono ?_
  rintro ev w' ⟨h1, h2, h3⟩
  rw [hr] at h1 h2
  exact ⟨h1, h2, h3⟩

theorem uintR_in {l : List Int} (h8 : In8 l) (a : Nat) (e M : Int) (hM : 0 ≤ M) : 0 ≤ (uintR l a e M).1 ∧ (uintR l a e M).1 ≤ M := by
  unfold uintR
  by_cases he : e = 0
  · rw [if_pos he]
    by_cases h1 : (rd (l.drop a)).2.2 = 0
    · rw [if_pos h1]
      obtain ⟨u0, -⟩ := rd_once (h8.drop a) h1
      by_cases h2 : M < (rd (l.drop a)).1
      · rw [if_pos h2]; exact ⟨Int.le_refl _, hM⟩
      · rw [if_neg h2]; exact ⟨u0, by show (rd (l.drop a)).1 ≤ M; omega⟩
    · rw [if_neg h1]; exact ⟨Int.le_refl _, hM⟩
  · rw [if_neg he]; exact ⟨Int.le_refl _, hM⟩
theorem cost6_any {w : World} {lo b a : Nat} {l : List Int} {e : Int} (h : R6V w lo b l a e) :
    Calls Tryz.prog 31 #[rp b] w fun ev w' => ev = .returned (.int .i64 (rdC l (a, e)).1) ∧ R6V w' lo b l (rdC l (a, e)).2.1 (rdC l (a, e)).2.2 ∧ But b w w' := by
  have h8 : In8 l := by obtain ⟨q, c, _, _, h8, _⟩ := h; exact h8
  have hin := uintR_in h8 a e 2147483649 (by omega)
  obtain ⟨V, a', e', hu⟩ : ∃ V a' e', uintR l a e 2147483649 = (V, a', e') := ⟨_, _, _, rfl⟩
  have hC : rdC l (a, e) = (unpz V, a', e') := by
    have : rdU l 2147483649 (a, e) = (V, a', e') := hu
    unfold rdC
    rw [this]
  rw [hu] at hin
  rw [hC]
  have HR := Lib.hid h
  have hin' : 0 ≤ V ∧ V ≤ 2147483649 := hin
  clear hin hC h
  by_cases hv : V = 0
  · have hz : unpz V = 1152921504606846976 := if_pos hv
    have hvb : (V == 0) = true := by simp [hv]
    rw [hz]
    clear hz hv
    go_enter Tryz.func31, Tryz.ntmps31
    go_wp2_with fail
    refine (v6U HR.out hu).mono ?_
    rintro ev w1 ⟨rfl, hr, hb⟩
    have HF := Lib.hid (And.intro hr hb)
    clear hr hb
    go_wp2_with fail
    go_ret
    exact ⟨rfl, HF.out⟩
  · have hz : unpz V = V - 1 := if_neg hv
    have hvb : (V == 0) = false := by simpa using hv
    have hw1 : IntKind.i64.wrap V = V := by simp [IntKind.wrap, IntKind.bits, IntKind.signed]; omega
    have hw2 : IntKind.i64.wrap (V - 1) = V - 1 := by simp [IntKind.wrap, IntKind.bits, IntKind.signed]; omega
    rw [hz]
    clear hz hv
    go_enter Tryz.func31, Tryz.ntmps31
    go_wp2_with fail
    refine (v6U HR.out hu).mono ?_
    rintro ev w1 ⟨rfl, hr, hb⟩
    have HF := Lib.hid (And.intro hr hb)
    clear hr hb
    go_wp2_with fail
    go_ret
    exact ⟨rfl, HF.out⟩
theorem v6C {w : World} {lo b a a' : Nat} {l : List Int} {e e' V : Int} (h : R6V w lo b l a e) (hr : rdC l (a, e) = (V, a', e')) :
    Calls Tryz.prog 31 #[rp b] w fun ev w' => ev = .returned (.int .i64 V) ∧ R6V w' lo b l a' e' ∧ But b w w' := by
  refine (cost6_any h).mono ?_
  rintro ev w' ⟨h1, h2, h3⟩
  rw [hr] at h1 h2
  exact ⟨h1, h2, h3⟩

end Go.Proofs.YtjapdbegfanfiaaGreatDoor
