/-
  PROVED: two tables that may be are alike, to the program, just where they have as many ins and outs and each turn costs the same. For every two tables. Conditions: the listed library variable holds what the program's own text lays (the card ties it).
-/
import Derived.Test.YtboimdgldjimpaaDoorKnown2
import Derived.Test.YtboimdgldjimpaaDoorLaw2T
import Derived.Test.YtboimdgldjimpaaDoorLaid2
import Derived.Test.YtboimdgldjimpaaDoorCards
import Derived.Test.YtboimdgldjimpaaDoorTie
import Derived.SevenTiedAt
namespace Go.Proofs.YtboimdgldjimpaaDoor
open Go.ChangeShapes Go.WideShapes Go.ChangeAt Go.RowKit

/-- v points to a table of the call's own, which is empty. -/
def PtrTab (W : World) (v : Value) (w : World) : Prop := ∃ b, v = .pointer (some ⟨b, 0, none⟩) ∧ W.heap.size ≤ b ∧ Blk w b #[.int .i64 0, .int .i64 0, .slice none 0 0] 34
theorem PtrTab.below {W w w' : World} {v : Value} (h : PtrTab W v w) (hb : Below w.heap.size w w') : PtrTab W v w' := by
  obtain ⟨b, e, h1, h2⟩ := h
  exact ⟨b, e, h1, h2.keep hb⟩

/-- A row of numbers in a block of numbers. -/
def RowT (w : World) (u : Value) (l : List Int) : Prop := ∃ base, w.ownsRow base 2 1 u l.length (l.map (Value.int .i64))
/-- v is a table whose row lies in a block of its own. -/
def TabR (w : World) (v : Value) (I O : Int) (l : List Int) : Prop := ∃ u, v = .agg #[.int .i64 I, .int .i64 O, u] ∧ RowT w u l
theorem RowT.below {w w' : World} {u : Value} {l : List Int} (h : RowT w u l) (hb : Below w.heap.size w w') : RowT w' u l := by
  obtain ⟨base, h⟩ := h
  exact ⟨base, owns_below h hb⟩
theorem RowT.shape {w : World} {u : Value} {l : List Int} (h : RowT w u l) : ∃ q c, u = .slice q l.length c := by
  obtain ⟨base, h1, ⟨rfl, e⟩ | ⟨g, cap, cur, rfl, _⟩⟩ := h
  · exact ⟨none, 0, by rw [e]⟩
  · exact ⟨_, cap, rfl⟩
theorem RowT.row {w : World} {u : Value} {l : List Int} (h : RowT w u l) (hl : l.length ≤ 9223372036854775807) : I64s w u l := by
  obtain ⟨base, h⟩ := h
  exact i64s_of_owns h hl
/-- Where a table's block is written the row stands. -/
theorem RowT.setTab {w : World} {u : Value} {l : List Int} (h : RowT w u l) {k : Nat} {cs : Array Value} (hk : Blk w k cs 34) (o : Nat) (x : Value) : RowT (w.setCell ⟨k, o, none⟩ x) u l := by
  obtain ⟨base, h⟩ := h
  refine ⟨base, h.1, ?_⟩
  rcases h.2 with h0 | ⟨g, cap, cur, h1, h2, h3, h4⟩
  · exact Or.inl h0
  · refine Or.inr ⟨g, cap, cur, h1, h2, ?_, h4⟩
    have hne : g ≠ k := fun e => by
      subst e
      unfold Blk at hk
      rw [hk] at h3
      injection h3 with h3
      injection h3 with _ h3
      cases h3
    exact (heap_setCell_other w ⟨k, o, none⟩ g x hne).trans h3
theorem TabR.below {w w' : World} {v : Value} {I O : Int} {l : List Int} (h : TabR w v I O l) (hb : Below w.heap.size w w') : TabR w' v I O l := by
  obtain ⟨u, e, h⟩ := h
  exact ⟨u, e, h.below hb⟩
theorem TabO.tabR {w : World} {base : Nat} {v : Value} {I O : Int} {l : List Int} (h : TabO w base v I O l) : TabR w v I O l := by
  obtain ⟨u, e, h⟩ := h
  exact ⟨u, e, base, h⟩

/-- Are ins and outs alike, and the first k costs? -/
def preB (I O J M : Int) (l m : List Int) (k : Nat) : Bool := decide (I = J ∧ O = M ∧ l.take k = m.take k)
theorem take_succ_eq {l m : List Int} {k : Nat} (h : l.length = m.length) (hk : k < l.length) : (l.take (k + 1) = m.take (k + 1)) ↔ (l.take k = m.take k ∧ l.getD k 0 = m.getD k 0) := by
  have hk' : k < m.length := h ▸ hk
  rw [take_snoc l k hk, take_snoc m k hk']
  simp only [List.getD_eq_getElem?_getD, List.getElem?_eq_getElem hk, List.getElem?_eq_getElem hk', Option.getD_some]
  constructor
  · intro e
    have := List.append_inj e (by simp; omega)
    exact ⟨this.1, by simpa using this.2⟩
  · rintro ⟨e1, e2⟩
    rw [e1, e2]
theorem preB_step {I O J M : Int} {l m : List Int} {NI NO n q : Nat} (hl : (l.length : Int) = I * O) (hm : (m.length : Int) = J * M) (_ : 0 ≤ J ∧ J ≤ 16 ∧ 0 ≤ M ∧ M ≤ 16) (eI : I = NI) (eO : O = NO) (hn : n < NI) (hq : q < NO) :
    preB I O J M l m (n * NO + (q + 1)) = (preB I O J M l m (n * NO + q) && (turnAt I O l n q == turnAt J M m n q)) := by
  by_cases hij : I = J
  · by_cases hom : O = M
    · subst hij
      subst hom
      subst eI
      subst eO
      have hidx : ((n : Int) * (NO : Int) + (q : Int)).toNat = n * NO + q := by
        have : ((n : Int) * (NO : Int) + (q : Int)) = ((n * NO + q : Nat) : Int) := by simp
        rw [this, Int.toNat_natCast]
      have hlt : n * NO + q < l.length := by
        have h1 : (n + 1) * NO ≤ NI * NO := Nat.mul_le_mul_right NO hn
        have h2 : ((NI * NO : Nat) : Int) = (NI : Int) * (NO : Int) := by simp
        rw [Nat.add_mul, Nat.one_mul] at h1
        omega
      have hlm : l.length = m.length := by omega
      have ha : ∀ r : List Int, turnAt (NI : Int) (NO : Int) r n q = r.getD (n * NO + q) 0 := fun r => by
        unfold turnAt
        rw [if_neg (by omega), hidx]
      rw [ha, ha, ← Nat.add_assoc, Bool.eq_iff_iff]
      unfold preB
      simp only [true_and, decide_eq_true_eq, Bool.and_eq_true, beq_iff_eq]
      exact take_succ_eq hlm hlt
    · simp [preB, hom]
  · simp [preB, hij]
theorem preB_end {I O J M : Int} {l m : List Int} {NI NO n : Nat} (hl : (l.length : Int) = I * O) (hm : (m.length : Int) = J * M) (hlen : l.length = NI * NO) (h : NI ≤ n ∨ preB I O J M l m (n * NO) = false) :
    preB I O J M l m (n * NO) = decide (I = J ∧ O = M ∧ l = m) := by
  rcases h with h | h
  · have h1 : NI * NO ≤ n * NO := Nat.mul_le_mul_right NO h
    by_cases hij : I = J
    · by_cases hom : O = M
      · subst hij
        subst hom
        have hlm : l.length = m.length := by omega
        unfold preB
        rw [List.take_of_length_le (by omega), List.take_of_length_le (by omega)]
      · simp [preB, hom]
    · simp [preB, hij]
  · rw [h]
    symm
    apply decide_eq_false
    rintro ⟨h1, h2, h3⟩
    unfold preB at h
    have := of_decide_eq_false h
    exact this ⟨h1, h2, by rw [h3]⟩

set_option maxHeartbeats 4000000 in
set_option maxRecDepth 100000 in
theorem apart_long (v : Value) (I O : Int) (ul : Value) (l : List Int) (u : Value) (J M : Int) (um : Value) (m : List Int) (w : World) (hg : ErrT w) (hv : TabIn w v I O ul l) (hu : TabIn w u J M um m) (h : 300 < l.length ∨ 300 < m.length) :
    Calls Tryd.prog 7 #[v, u] w fun e w' => e = .returned (.bool true) ∧ Below w.heap.size w w' := by
  obtain ⟨rfl, hl, inl, hI, hO⟩ := hv
  obtain ⟨rfl, hm, inm, hJ, hM⟩ := hu
  obtain ⟨lq, lc, rfl⟩ := hl.shape
  obtain ⟨mq, mc, rfl⟩ := hm.shape
  have d : decide ((300 : Int) < (l.length : Int)) = true ∨ decide ((300 : Int) < (l.length : Int)) = false ∧ decide ((300 : Int) < (m.length : Int)) = true := by
    by_cases h1 : 300 < l.length
    · left; simp; omega
    · right; simp; omega
  clear h
  go_enter Tryd.func7, Tryd.ntmps7
  go_wp2_with fail
  obtain ⟨W0, hW0⟩ := named ((w.alloc (.cells #[.int .i64 I, .int .i64 O, .slice lq l.length lc] 24)).alloc (.cells #[.int .i64 J, .int .i64 M, .slice mq m.length mc] 24))
  rw [← hW0]
  have hc0 : Below w.heap.size w W0 := by rw [hW0]; exact below_alloc2 _ _
  have B0 := Lib.hid hc0
  have KA : Hid (Blk W0 (w.heap.size) #[.int .i64 I, .int .i64 O, .slice lq l.length lc] 24) := by rw [hW0]; exact Lib.hid ((Blk.new _ _ _ _ rfl).old _)
  have KB : Hid (Blk W0 (w.heap.size + 1) #[.int .i64 J, .int .i64 M, .slice mq m.length mc] 24) := by rw [hW0]; exact Lib.hid (Blk.new _ _ _ _ (by simp))
  have TL := Lib.hid (hl.below hc0)
  have TM := Lib.hid (hm.below hc0)
  have HG := Lib.hid (hg.keep hc0)
  clear hc0 hW0 hl hm hg
  refine (known2_any _ HG.out).mono ?_
  rintro e w1 ⟨rfl, hb⟩
  have hd1 : Below W0.heap.size W0 w1 := hb
  have KA_ := Lib.hid (KA.out.keep hd1)
  have KB_ := Lib.hid (KB.out.keep hd1)
  have TL_ := Lib.hid (TL.out.below hd1)
  have TM_ := Lib.hid (TM.out.below hd1)
  have HG_ := Lib.hid (HG.out.keep hd1)
  clear KA KB TL TM HG
  have KA := KA_
  have KB := KB_
  have TL := TL_
  have TM := TM_
  have HG := HG_
  clear KA_ KB_ TL_ TM_ HG_
  have B1 : Hid (Below w.heap.size w w1) := Lib.hid (B0.out.trans (hd1.mono B0.out.size))
  clear B0
  have B0 := B1
  clear B1
  clear hb hd1 
  obtain ⟨p0, p1, p2, -, -, -⟩ := KA.out.o3
  obtain ⟨r0, r1, r2, -, -, -⟩ := KB.out.o3
  rcases d with d | ⟨d, d2⟩
  all_goals
    go_wp2_with fail
    go_ret
    exact ⟨rfl, B0.out⟩

set_option maxHeartbeats 4000000 in
set_option maxRecDepth 100000 in
theorem apart_bad1 (v : Value) (I O : Int) (ul : Value) (l : List Int) (u : Value) (J M : Int) (um : Value) (m : List Int) (w : World) (hg : ErrT w) (hv : TabIn w v I O ul l) (hu : TabIn w u J M um m) (h1 : l.length ≤ 300) (h2 : m.length ≤ 300) (hck : ¬ (chkT I O l).2 = 0) :
    Calls Tryd.prog 7 #[v, u] w fun e w' => e = .returned (.bool true) ∧ Below w.heap.size w w' := by
  obtain ⟨rfl, hl, inl, hI, hO⟩ := hv
  obtain ⟨rfl, hm, inm, hJ, hM⟩ := hu
  obtain ⟨lq, lc, rfl⟩ := hl.shape
  obtain ⟨mq, mc, rfl⟩ := hm.shape
  have hfe := field_err
  have d1 : decide ((300 : Int) < (l.length : Int)) = false := by simp; omega
  have d2 : decide ((300 : Int) < (m.length : Int)) = false := by simp; omega
  have hck' : ((chkT I O l).2 == 0) = false := by simpa using hck
  go_enter Tryd.func7, Tryd.ntmps7
  go_wp2_with fail
  obtain ⟨W0, hW0⟩ := named ((w.alloc (.cells #[.int .i64 I, .int .i64 O, .slice lq l.length lc] 24)).alloc (.cells #[.int .i64 J, .int .i64 M, .slice mq m.length mc] 24))
  rw [← hW0]
  have hc0 : Below w.heap.size w W0 := by rw [hW0]; exact below_alloc2 _ _
  have B0 := Lib.hid hc0
  have KA : Hid (Blk W0 (w.heap.size) #[.int .i64 I, .int .i64 O, .slice lq l.length lc] 24) := by rw [hW0]; exact Lib.hid ((Blk.new _ _ _ _ rfl).old _)
  have KB : Hid (Blk W0 (w.heap.size + 1) #[.int .i64 J, .int .i64 M, .slice mq m.length mc] 24) := by rw [hW0]; exact Lib.hid (Blk.new _ _ _ _ (by simp))
  have TL := Lib.hid (hl.below hc0)
  have TM := Lib.hid (hm.below hc0)
  have HG := Lib.hid (hg.keep hc0)
  clear hc0 hW0 hl hm hg
  refine (known2_any _ HG.out).mono ?_
  rintro e w1 ⟨rfl, hb⟩
  obtain ⟨p0, p1, p2, -, -, -⟩ := (KA.out.keep hb).o3
  obtain ⟨r0, r1, r2, -, -, -⟩ := (KB.out.keep hb).o3
  go_wp2_with fail
  clear p0 p1 p2 r0 r1 r2
  have hd1 : Below W0.heap.size W0 w1 := hb
  have KA_ := Lib.hid (KA.out.keep hd1)
  have KB_ := Lib.hid (KB.out.keep hd1)
  have TL_ := Lib.hid (TL.out.below hd1)
  have TM_ := Lib.hid (TM.out.below hd1)
  have HG_ := Lib.hid (HG.out.keep hd1)
  clear KA KB TL TM HG
  have KA := KA_
  have KB := KB_
  have TL := TL_
  have TM := TM_
  have HG := HG_
  clear KA_ KB_ TL_ TM_ HG_
  have B1 : Hid (Below w.heap.size w w1) := Lib.hid (B0.out.trans (hd1.mono B0.out.size))
  clear B0
  have B0 := B1
  clear B1
  clear hb hd1 
  refine (rcheck_any I O _ l _ TL.out inl).mono ?_
  rintro e w2 ⟨wv, rfl, hW, hb⟩
  obtain ⟨gq, gn, gc, rfl⟩ := hW.shape
  have hd2 : Below w1.heap.size w1 w2 := hb
  have KA_ := Lib.hid (KA.out.keep hd2)
  have KB_ := Lib.hid (KB.out.keep hd2)
  have TL_ := Lib.hid (TL.out.below hd2)
  have TM_ := Lib.hid (TM.out.below hd2)
  have HG_ := Lib.hid (HG.out.keep hd2)
  clear KA KB TL TM HG
  have KA := KA_
  have KB := KB_
  have TL := TL_
  have TM := TM_
  have HG := HG_
  clear KA_ KB_ TL_ TM_ HG_
  have B1 : Hid (Below w.heap.size w w2) := Lib.hid (B0.out.trans (hd2.mono B0.out.size))
  clear B0
  have B0 := B1
  clear B1
  clear hb hd2 hW
  obtain ⟨p0, p1, p2, -, -, -⟩ := KA.out.o3
  obtain ⟨r0, r1, r2, -, -, -⟩ := KB.out.o3
  go_wp2_with fail
  go_ret
  exact ⟨rfl, B0.out⟩

set_option maxHeartbeats 4000000 in
set_option maxRecDepth 100000 in
theorem apart_bad2 (v : Value) (I O : Int) (ul : Value) (l : List Int) (u : Value) (J M : Int) (um : Value) (m : List Int) (w : World) (hg : ErrT w) (hv : TabIn w v I O ul l) (hu : TabIn w u J M um m) (h1 : l.length ≤ 300) (h2 : m.length ≤ 300) (hca : chkT I O l = (0, 0)) (hck : ¬ (chkT J M m).2 = 0) :
    Calls Tryd.prog 7 #[v, u] w fun e w' => e = .returned (.bool true) ∧ Below w.heap.size w w' := by
  obtain ⟨rfl, hl, inl, hI, hO⟩ := hv
  obtain ⟨rfl, hm, inm, hJ, hM⟩ := hu
  obtain ⟨lq, lc, rfl⟩ := hl.shape
  obtain ⟨mq, mc, rfl⟩ := hm.shape
  have hfe := field_err
  have d1 : decide ((300 : Int) < (l.length : Int)) = false := by simp; omega
  have d2 : decide ((300 : Int) < (m.length : Int)) = false := by simp; omega
  have hck' : ((chkT J M m).2 == 0) = false := by simpa using hck
  have HCK := Lib.hid hca
  clear hca
  go_enter Tryd.func7, Tryd.ntmps7
  go_wp2_with fail
  obtain ⟨W0, hW0⟩ := named ((w.alloc (.cells #[.int .i64 I, .int .i64 O, .slice lq l.length lc] 24)).alloc (.cells #[.int .i64 J, .int .i64 M, .slice mq m.length mc] 24))
  rw [← hW0]
  have hc0 : Below w.heap.size w W0 := by rw [hW0]; exact below_alloc2 _ _
  have B0 := Lib.hid hc0
  have KA : Hid (Blk W0 (w.heap.size) #[.int .i64 I, .int .i64 O, .slice lq l.length lc] 24) := by rw [hW0]; exact Lib.hid ((Blk.new _ _ _ _ rfl).old _)
  have KB : Hid (Blk W0 (w.heap.size + 1) #[.int .i64 J, .int .i64 M, .slice mq m.length mc] 24) := by rw [hW0]; exact Lib.hid (Blk.new _ _ _ _ (by simp))
  have TL := Lib.hid (hl.below hc0)
  have TM := Lib.hid (hm.below hc0)
  have HG := Lib.hid (hg.keep hc0)
  clear hc0 hW0 hl hm hg
  refine (known2_any _ HG.out).mono ?_
  rintro e w1 ⟨rfl, hb⟩
  obtain ⟨p0, p1, p2, -, -, -⟩ := (KA.out.keep hb).o3
  obtain ⟨r0, r1, r2, -, -, -⟩ := (KB.out.keep hb).o3
  go_wp2_with fail
  clear p0 p1 p2 r0 r1 r2
  have hd1 : Below W0.heap.size W0 w1 := hb
  have KA_ := Lib.hid (KA.out.keep hd1)
  have KB_ := Lib.hid (KB.out.keep hd1)
  have TL_ := Lib.hid (TL.out.below hd1)
  have TM_ := Lib.hid (TM.out.below hd1)
  have HG_ := Lib.hid (HG.out.keep hd1)
  clear KA KB TL TM HG
  have KA := KA_
  have KB := KB_
  have TL := TL_
  have TM := TM_
  have HG := HG_
  clear KA_ KB_ TL_ TM_ HG_
  have B1 : Hid (Below w.heap.size w w1) := Lib.hid (B0.out.trans (hd1.mono B0.out.size))
  clear B0
  have B0 := B1
  clear B1
  clear hb hd1 
  refine (rcheck_any I O _ l _ TL.out inl).mono ?_
  rintro e w2 ⟨wv, rfl, hW, hb⟩
  rw [HCK.out] at hW
  have hW0 : WrongV w2 wv [] 0 := hW
  obtain ⟨gq, gc, rfl⟩ := hW0.none
  obtain ⟨p0, p1, p2, -, -, -⟩ := (KA.out.keep hb).o3
  obtain ⟨r0, r1, r2, -, -, -⟩ := (KB.out.keep hb).o3
  go_wp2_with fail
  clear p0 p1 p2 r0 r1 r2
  have hd2 : Below w1.heap.size w1 w2 := hb
  have KA_ := Lib.hid (KA.out.keep hd2)
  have KB_ := Lib.hid (KB.out.keep hd2)
  have TL_ := Lib.hid (TL.out.below hd2)
  have TM_ := Lib.hid (TM.out.below hd2)
  have HG_ := Lib.hid (HG.out.keep hd2)
  clear KA KB TL TM HG
  have KA := KA_
  have KB := KB_
  have TL := TL_
  have TM := TM_
  have HG := HG_
  clear KA_ KB_ TL_ TM_ HG_
  have B1 : Hid (Below w.heap.size w w2) := Lib.hid (B0.out.trans (hd2.mono B0.out.size))
  clear B0
  have B0 := B1
  clear B1
  clear hb hd2 hW hW0
  refine (rcheck_any J M _ m _ TM.out inm).mono ?_
  rintro e w3 ⟨wv, rfl, hW, hb⟩
  obtain ⟨hq, hn, hc, rfl⟩ := hW.shape
  have hd3 : Below w2.heap.size w2 w3 := hb
  have KA_ := Lib.hid (KA.out.keep hd3)
  have KB_ := Lib.hid (KB.out.keep hd3)
  have TL_ := Lib.hid (TL.out.below hd3)
  have TM_ := Lib.hid (TM.out.below hd3)
  have HG_ := Lib.hid (HG.out.keep hd3)
  clear KA KB TL TM HG
  have KA := KA_
  have KB := KB_
  have TL := TL_
  have TM := TM_
  have HG := HG_
  clear KA_ KB_ TL_ TM_ HG_
  have B1 : Hid (Below w.heap.size w w3) := Lib.hid (B0.out.trans (hd3.mono B0.out.size))
  clear B0
  have B0 := B1
  clear B1
  clear hb hd3 hW
  obtain ⟨p0, p1, p2, -, -, -⟩ := KA.out.o3
  obtain ⟨r0, r1, r2, -, -, -⟩ := KB.out.o3
  go_wp2_with fail
  go_ret
  exact ⟨rfl, B0.out⟩

set_option maxHeartbeats 4000000 in
set_option maxRecDepth 100000 in
theorem apart_ok (v : Value) (NI NO : Nat) (ul : Value) (l : List Int) (u : Value) (NJ NM : Nat) (um : Value) (m : List Int) (w : World) (hg : ErrT w) (hv : TabIn w v NI NO ul l) (hu : TabIn w u NJ NM um m) (h1 : l.length ≤ 300) (h2 : m.length ≤ 300) (hca : chkT NI NO l = (0, 0)) (hcb : chkT NJ NM m = (0, 0)) :
    Calls Tryd.prog 7 #[v, u] w fun e w' => e = .returned (.bool true) ∧ Below w.heap.size w w' := by
  obtain ⟨rfl, hl, inl, hI, hO⟩ := hv
  obtain ⟨rfl, hm, inm, hJ, hM⟩ := hu
  obtain ⟨lq, lc, rfl⟩ := hl.shape
  obtain ⟨mq, mc, rfl⟩ := hm.shape
  obtain ⟨I, eI⟩ : ∃ I : Int, I = NI := ⟨_, rfl⟩
  obtain ⟨O, eO⟩ : ∃ O : Int, O = NO := ⟨_, rfl⟩
  obtain ⟨J, eJ⟩ : ∃ J : Int, J = NJ := ⟨_, rfl⟩
  obtain ⟨M, eM⟩ : ∃ M : Int, M = NM := ⟨_, rfl⟩
  rw [← eI, ← eO] at hca
  rw [← eJ, ← eM] at hcb
  rw [← eI, ← eO, ← eJ, ← eM]
  have hfe := field_err
  have d1 : decide ((300 : Int) < (l.length : Int)) = false := by simp; omega
  have d2 : decide ((300 : Int) < (m.length : Int)) = false := by simp; omega
  obtain ⟨i0, i1, o0, o1, hn, -⟩ := chkT_ok (I := I) (O := O) (l := l) (by rw [hca])
  obtain ⟨j0, j1, m0, m1, hn2, -⟩ := chkT_ok (I := J) (O := M) (l := m) (by rw [hcb])
  have HN := Lib.hid hn
  have HN2 := Lib.hid hn2
  have HS := Lib.hid (And.intro i0 (And.intro i1 (And.intro o0 o1)))
  have HS2 := Lib.hid (And.intro j0 (And.intro j1 (And.intro m0 m1)))
  have HCA := Lib.hid hca
  have HCB := Lib.hid hcb
  have EI := Lib.hid eI
  have EO := Lib.hid eO
  have EJ := Lib.hid eJ
  have EM := Lib.hid eM
  have l0 : (NI : Int) ≤ 16 := by omega
  have l1 : (NO : Int) ≤ 16 := by omega
  clear hn hn2 hca hcb eI eO eJ eM hI hO hJ hM
  go_enter Tryd.func7, Tryd.ntmps7
  go_wp2_with fail
  obtain ⟨W0, hW0⟩ := named ((w.alloc (.cells #[.int .i64 I, .int .i64 O, .slice lq l.length lc] 24)).alloc (.cells #[.int .i64 J, .int .i64 M, .slice mq m.length mc] 24))
  rw [← hW0]
  have hc0 : Below w.heap.size w W0 := by rw [hW0]; exact below_alloc2 _ _
  have B0 := Lib.hid hc0
  have KA : Hid (Blk W0 (w.heap.size) #[.int .i64 I, .int .i64 O, .slice lq l.length lc] 24) := by rw [hW0]; exact Lib.hid ((Blk.new _ _ _ _ rfl).old _)
  have KB : Hid (Blk W0 (w.heap.size + 1) #[.int .i64 J, .int .i64 M, .slice mq m.length mc] 24) := by rw [hW0]; exact Lib.hid (Blk.new _ _ _ _ (by simp))
  have TL := Lib.hid (hl.below hc0)
  have TM := Lib.hid (hm.below hc0)
  have HG := Lib.hid (hg.keep hc0)
  clear hc0 hW0 hl hm hg
  refine (known2_any _ HG.out).mono ?_
  rintro e w1 ⟨rfl, hb⟩
  obtain ⟨p0, p1, p2, -, -, -⟩ := (KA.out.keep hb).o3
  obtain ⟨r0, r1, r2, -, -, -⟩ := (KB.out.keep hb).o3
  go_wp2_with fail
  clear p0 p1 p2 r0 r1 r2
  have hd1 : Below W0.heap.size W0 w1 := hb
  have KA_ := Lib.hid (KA.out.keep hd1)
  have KB_ := Lib.hid (KB.out.keep hd1)
  have TL_ := Lib.hid (TL.out.below hd1)
  have TM_ := Lib.hid (TM.out.below hd1)
  have HG_ := Lib.hid (HG.out.keep hd1)
  clear KA KB TL TM HG
  have KA := KA_
  have KB := KB_
  have TL := TL_
  have TM := TM_
  have HG := HG_
  clear KA_ KB_ TL_ TM_ HG_
  have B1 : Hid (Below w.heap.size w w1) := Lib.hid (B0.out.trans (hd1.mono B0.out.size))
  clear B0
  have B0 := B1
  clear B1
  clear hb hd1 
  refine (rcheck_any I O _ l _ TL.out inl).mono ?_
  rintro e w2 ⟨wv, rfl, hW, hb⟩
  rw [HCA.out] at hW
  have hW0 : WrongV w2 wv [] 0 := hW
  obtain ⟨gq, gc, rfl⟩ := hW0.none
  obtain ⟨p0, p1, p2, -, -, -⟩ := (KA.out.keep hb).o3
  obtain ⟨r0, r1, r2, -, -, -⟩ := (KB.out.keep hb).o3
  go_wp2_with fail
  clear p0 p1 p2 r0 r1 r2
  have hd2 : Below w1.heap.size w1 w2 := hb
  have KA_ := Lib.hid (KA.out.keep hd2)
  have KB_ := Lib.hid (KB.out.keep hd2)
  have TL_ := Lib.hid (TL.out.below hd2)
  have TM_ := Lib.hid (TM.out.below hd2)
  have HG_ := Lib.hid (HG.out.keep hd2)
  clear KA KB TL TM HG
  have KA := KA_
  have KB := KB_
  have TL := TL_
  have TM := TM_
  have HG := HG_
  clear KA_ KB_ TL_ TM_ HG_
  have B1 : Hid (Below w.heap.size w w2) := Lib.hid (B0.out.trans (hd2.mono B0.out.size))
  clear B0
  have B0 := B1
  clear B1
  clear hb hd2 hW hW0
  refine (rcheck_any J M _ m _ TM.out inm).mono ?_
  rintro e w3 ⟨wv, rfl, hW, hb⟩
  rw [HCB.out] at hW
  have hW0 : WrongV w3 wv [] 0 := hW
  obtain ⟨hq, hc, rfl⟩ := hW0.none
  obtain ⟨p0, p1, p2, -, -, -⟩ := (KA.out.keep hb).o3
  obtain ⟨r0, r1, r2, -, -, -⟩ := (KB.out.keep hb).o3
  go_wp2_with fail
  clear p0 p1 p2 r0 r1 r2
  have hd3 : Below w2.heap.size w2 w3 := hb
  have KA_ := Lib.hid (KA.out.keep hd3)
  have KB_ := Lib.hid (KB.out.keep hd3)
  have TL_ := Lib.hid (TL.out.below hd3)
  have TM_ := Lib.hid (TM.out.below hd3)
  have HG_ := Lib.hid (HG.out.keep hd3)
  clear KA KB TL TM HG
  have KA := KA_
  have KB := KB_
  have TL := TL_
  have TM := TM_
  have HG := HG_
  clear KA_ KB_ TL_ TM_ HG_
  have B1 : Hid (Below w.heap.size w w3) := Lib.hid (B0.out.trans (hd3.mono B0.out.size))
  clear B0
  have B0 := B1
  clear B1
  clear hb hd3 hW hW0
  have hGS : Grows (fun w' => Below w3.heap.size w3 w') := Grows.below w3
  refine' wp_apartL _ 6 (fun w' => Below w3.heap.size w3 w') [[], [0], [], [2], [], []] (Fact.lit _ :: Fact.prop _ _ :: Fact.lit _ :: Fact.prop _ _ :: Fact.fresh _ _ :: Fact.fresh _ _ :: []) (by kernel_rfl) rfl (by kernel_rfl) (Below.refl _ _).drew ?seqfive
  case' seqfive => skip
  (first | (refine' grow_skip rfl ?wt1 ?put1 ?next1; (case wt1 => rfl)) | (refine' grow_lit rfl ?wt1 ?run1 ?put1 ?next1; (case wt1 => rfl); (case run1 => (intro w' hS H; clear H; (obtain ⟨a0, a1, a2, -, -, -⟩ := (KA.out.keep hS).o3); (obtain ⟨b0, b1, b2, -, -, -⟩ := (KB.out.keep hS).o3); clear hS; go_simp; first | done | exact rfl)))); (case put1 => (simp only [Act.put, List.setIfInBounds_toArray, List.set_cons_zero, List.set_cons_succ]; first | done | exact rfl)); (case' next1 => skip)
  (refine' grow_callP (p := fun v w => TabR w v I O l) (hp := fun v w w' h hb => h.below hb) rfl Tryd.func12 (by kernel_rfl) rfl hGS rfl ?wt25 ?run25 ?put25 ?next25; (case wt25 => rfl); (case run25 => (intro w' hS H; exact (to_own I O _ l w' (by omega) (TL.out.below hS)).mono (fun e w2 ⟨v, h1, h2, h3⟩ => ⟨v, h1, h2.tabR, h3⟩))); (case put25 => (intro v; simp only [Act.put, List.setIfInBounds_toArray, List.set_cons_zero, List.set_cons_succ]; first | done | exact rfl)); (case' next25 => intro v1))
  (first | (refine' grow_skip rfl ?wt2 ?put2 ?next2; (case wt2 => rfl)) | (refine' grow_lit rfl ?wt2 ?run2 ?put2 ?next2; (case wt2 => rfl); (case run2 => (intro w' hS H; clear H; (obtain ⟨a0, a1, a2, -, -, -⟩ := (KA.out.keep hS).o3); (obtain ⟨b0, b1, b2, -, -, -⟩ := (KB.out.keep hS).o3); clear hS; go_simp; first | done | exact rfl)))); (case put2 => (simp only [Act.put, List.setIfInBounds_toArray, List.set_cons_zero, List.set_cons_succ]; first | done | exact rfl)); (case' next2 => skip)
  (refine' grow_callP (p := fun v w => TabR w v J M m) (hp := fun v w w' h hb => h.below hb) rfl Tryd.func12 (by kernel_rfl) rfl hGS rfl ?wt26 ?run26 ?put26 ?next26; (case wt26 => rfl); (case run26 => (intro w' hS H; exact (to_own J M _ m w' (by omega) (TM.out.below hS)).mono (fun e w2 ⟨v, h1, h2, h3⟩ => ⟨v, h1, h2.tabR, h3⟩))); (case put26 => (intro v; simp only [Act.put, List.setIfInBounds_toArray, List.set_cons_zero, List.set_cons_succ]; first | done | exact rfl)); (case' next26 => intro v3))
  (refine' grow_fresh (p := PtrTab w3) (hp := fun v w w' h hb => h.below hb) hGS rfl ?wtm4 ?runm4 ?putm4 ?nextm4; (case wtm4 => rfl); (case runm4 => (intro w' hS H; clear H; refine ⟨.pointer (some ⟨w'.heap.size, 0, none⟩), w'.alloc (.cells #[.int .i64 0, .int .i64 0, .slice none 0 0] 34), ?_, ⟨w'.heap.size, rfl, hS.size, Blk.new _ _ _ _ rfl⟩, ⟨w'.heap.size, rfl, Nat.le_refl _, by simp⟩, below_alloc1 _⟩; (clear hS; go_simp))); (case putm4 => (intro v; simp only [Act.put, List.setIfInBounds_toArray, List.set_cons_zero, List.set_cons_succ]; first | done | exact rfl)); (case' nextm4 => intro v4))
  (refine' grow_fresh (p := PtrTab w3) (hp := fun v w w' h hb => h.below hb) hGS rfl ?wtm5 ?runm5 ?putm5 ?nextm5; (case wtm5 => rfl); (case runm5 => (intro w' hS H; clear H; refine ⟨.pointer (some ⟨w'.heap.size, 0, none⟩), w'.alloc (.cells #[.int .i64 0, .int .i64 0, .slice none 0 0] 34), ?_, ⟨w'.heap.size, rfl, hS.size, Blk.new _ _ _ _ rfl⟩, ⟨w'.heap.size, rfl, Nat.le_refl _, by simp⟩, below_alloc1 _⟩; (clear hS; go_simp))); (case putm5 => (intro v; simp only [Act.put, List.setIfInBounds_toArray, List.set_cons_zero, List.set_cons_succ]; first | done | exact rfl)); (case' nextm5 => intro v5))
  intro w9 hb hk hap
  have h1 : TabR w9 v1 I O l := hk 1 (by decide)
  have h3 : TabR w9 v3 J M m := hk 3 (by decide)
  have h4 : PtrTab w3 v4 w9 := hk 4 (by decide)
  have h5 : PtrTab w3 v5 w9 := hk 5 (by decide)
  obtain ⟨u1, rfl, h1⟩ := h1
  obtain ⟨u3, rfl, h3⟩ := h3
  obtain ⟨b4, rfl, hb4, k4⟩ := h4
  obtain ⟨b5, rfl, hb5, k5⟩ := h5
  have hne : b4 ≠ b5 := fun e => hap 4 5 (by decide) (by decide) (by decide) rfl rfl 5 6 rfl rfl (by subst e; rfl)
  obtain ⟨u1q, u1c, rfl⟩ := h1.shape
  obtain ⟨u3q, u3c, rfl⟩ := h3.shape
  have H1 := Lib.hid h1
  have H3 := Lib.hid h3
  have K4 := Lib.hid k4
  have K5 := Lib.hid k5
  have HB := Lib.hid hb
  clear hap hk h1 h3 hb
  have z4 := k4.lt
  have z5 := k5.lt
  obtain ⟨s0, s1, s2, f0, f1, f2⟩ := k4.o3
  obtain ⟨t0, t1, t2, g0, g1, g2⟩ := k5.o3
  have hne' : b5 ≠ b4 := Ne.symm hne
  refine wpAny_cut2 (fun w' => w' = (((((w9.setCell ⟨b4, 0, none⟩ (.int .i64 I)).setCell ⟨b4, 1, none⟩ (.int .i64 O)).setCell ⟨b4, 2, none⟩ (.slice u1q l.length u1c)).setCell ⟨b5, 0, none⟩ (.int .i64 J)).setCell ⟨b5, 1, none⟩ (.int .i64 M)).setCell ⟨b5, 2, none⟩ (.slice u3q m.length u3c)) ?one ?two
  case one =>
    refine wpAny_ready (rs := [6]) (by kernel_rfl) (by simp) (AllReady.cons rfl (fun K hK => ?_) AllReady.nil)
    go_simp
    refine hK _ _ ?_
    clear hK K
    refine wpAny_ready (rs := [7]) (by kernel_rfl) (by simp) (AllReady.cons rfl (fun K hK => ?_) AllReady.nil)
    go_simp
    refine hK _ _ ?_
    clear hK K
    exact wpAny_done (by kernel_rfl) ⟨rfl, rfl, rfl⟩ _
  case' two => skip
  rintro w' rfl
  have H1' := (((((H1.out.setTab K4.out 0 (.int .i64 I)).setTab (K4.out.set 0 _) 1 (.int .i64 O)).setTab ((K4.out.set 0 _).set 1 _) 2 (.slice u1q l.length u1c))))
  have k5a := ((K5.out.other 0 (.int .i64 I) hne').other 1 (.int .i64 O) hne').other 2 (.slice u1q l.length u1c) hne'
  have k4a := ((K4.out.set 0 (.int .i64 I)).set 1 (.int .i64 O)).set 2 (.slice u1q l.length u1c)
  have H1'' := ((H1'.setTab k5a 0 (.int .i64 J)).setTab (k5a.set 0 _) 1 (.int .i64 M)).setTab ((k5a.set 0 _).set 1 _) 2 (.slice u3q m.length u3c)
  have H3' := (((((H3.out.setTab K4.out 0 (.int .i64 I)).setTab (K4.out.set 0 _) 1 (.int .i64 O)).setTab ((K4.out.set 0 _).set 1 _) 2 (.slice u1q l.length u1c))))
  have H3'' := ((H3'.setTab k5a 0 (.int .i64 J)).setTab (k5a.set 0 _) 1 (.int .i64 M)).setTab ((k5a.set 0 _).set 1 _) 2 (.slice u3q m.length u3c)
  have k4b := ((k4a.other 0 (.int .i64 J) hne).other 1 (.int .i64 M) hne).other 2 (.slice u3q m.length u3c) hne
  have k5b := ((k5a.set 0 (.int .i64 J)).set 1 (.int .i64 M)).set 2 (.slice u3q m.length u3c)
  have hbX : Below w.heap.size w ((((((w9.setCell ⟨b4, 0, none⟩ (.int .i64 I)).setCell ⟨b4, 1, none⟩ (.int .i64 O)).setCell ⟨b4, 2, none⟩ (.slice u1q l.length u1c)).setCell ⟨b5, 0, none⟩ (.int .i64 J)).setCell ⟨b5, 1, none⟩ (.int .i64 M)).setCell ⟨b5, 2, none⟩ (.slice u3q m.length u3c)) := by
    have hz := B0.out.size
    iterate 6 (refine Below.setCell ?_ (by simp only []; omega) _)
    exact B0.out.trans (HB.out.mono B0.out.size)
  obtain ⟨X, hX⟩ := named ((((((w9.setCell ⟨b4, 0, none⟩ (.int .i64 I)).setCell ⟨b4, 1, none⟩ (.int .i64 O)).setCell ⟨b4, 2, none⟩ (.slice u1q l.length u1c)).setCell ⟨b5, 0, none⟩ (.int .i64 J)).setCell ⟨b5, 1, none⟩ (.int .i64 M)).setCell ⟨b5, 2, none⟩ (.slice u3q m.length u3c))
  rw [← hX] at H1'' H3'' k4b k5b hbX ⊢
  have KX : Hid (Blk X b4 #[.int .i64 I, .int .i64 O, .slice u1q l.length u1c] 34) := Lib.hid (by simpa using k4b)
  have KY : Hid (Blk X b5 #[.int .i64 J, .int .i64 M, .slice u3q m.length u3c] 34) := Lib.hid (by simpa using k5b)
  have RX := Lib.hid (H1''.row (by omega))
  have RY := Lib.hid (H3''.row (by omega))
  have BX := Lib.hid hbX
  clear hX H1'' H3'' k4b k5b hbX H1' H3' k4a k5a H1 H3 K4 K5 HB B0 KA KB TL TM HG s0 s1 s2 f0 f1 f2 t0 t1 t2 g0 g1 g2 z4 z5 k4 k5 hb4 hb5 hne hne' hfe d1 d2 inl inm hGS
  clear i0 i1 o0 o1 j0 j1 m0 m1
  obtain ⟨F, eF⟩ : ∃ F : Bool, F = decide (I = J ∧ O = M ∧ l = m) := ⟨_, rfl⟩
  have EF := Lib.hid eF
  have hlen : l.length = NI * NO := by
    have := HN.out
    rw [EI.out, EO.out] at this
    have h2 : ((NI * NO : Nat) : Int) = (NI : Int) * (NO : Int) := by simp
    omega
  have HLEN := Lib.hid hlen
  clear eF hlen
  obtain ⟨c0, c1, c2, -, -, -⟩ := KX.out.o3
  obtain ⟨e0, e1, e2, -, -, -⟩ := KY.out.o3
  go_upto_region 6 with (fail)
  go_cut [7] (fun s7 wx => s7 = .bool (preB I O J M l m 0) ∧ wx = X)
  case first =>
    by_cases hij : I = J
    · by_cases hom : O = M
      · have hp : preB I O J M l m 0 = true := by simp [preB, hij, hom]
        have HP := Lib.hid hp
        clear hp
        go_wp2_with fail
        go_meet
        exact ⟨by rw [HP.out], rfl⟩
      · have hp : preB I O J M l m 0 = false := by simp [preB, hom]
        have HP := Lib.hid hp
        clear hp
        go_wp2_with fail
        go_meet
        exact ⟨by rw [HP.out]; simp [hom], rfl⟩
    · have hp : preB I O J M l m 0 = false := by simp [preB, hij]
      have HP := Lib.hid hp
      clear hp
      go_wp2_with fail
      go_meet
      exact ⟨by rw [HP.out], rfl⟩
  case rest =>
  obtain ⟨rfl, rfl⟩ := hcut
  go_wp2_with fail
  go_loopw [7, 8, 9] (fun s i _ wr => ∃ (n : Nat) (b : Bool), n ≤ NI ∧ i = .int .i64 n ∧ s = .bool b ∧ Hid (b = preB I O J M l m (n * NO)) ∧ Hid (Below wc.heap.size wc wr)) (fun _ i _ _ => NI - (intOf i).toNat)
  case atStart => exact ⟨0, _, Nat.zero_le _, rfl, rfl, Lib.hid (by rw [Nat.zero_mul]), Lib.hid (Below.refl _ _)⟩
  case round =>
    obtain ⟨n, b, hn, rfl, rfl, HP, HBr⟩ := hrel
    obtain ⟨c0, c1, c2, -, -, -⟩ := (KX.out.keep HBr.out).o3
    obtain ⟨e0, e1, e2, -, -, -⟩ := (KY.out.keep HBr.out).o3
    by_cases hgo : n < NI ∧ b = true
    · obtain ⟨hlt, rfl⟩ := hgo
      have hlt' : (n : Int) < I := by rw [EI.out]; omega
      go_wp2_with fail
      obtain ⟨wo, ewo⟩ := named wr
      have EW := Lib.hid ewo
      clear ewo
      go_loopw [7, 9] (fun s k wq => ∃ (q : Nat) (b : Bool), q ≤ NO ∧ k = .int .i64 q ∧ s = .bool b ∧ Hid (b = preB I O J M l m (n * NO + q)) ∧ Hid (Below wc.heap.size wc wq)) (fun _ k _ => NO - (intOf k).toNat)
      case atStart => exact ⟨0, _, Nat.zero_le _, rfl, rfl, HP, HBr⟩
      case round =>
        obtain ⟨q, b, hq, rfl, rfl, HQ, HBq⟩ := hrel
        clear c0 c1 c2 e0 e1 e2
        have KXq := Lib.hid (KX.out.keep HBq.out)
        have KYq := Lib.hid (KY.out.keep HBq.out)
        have RXq := Lib.hid (RX.out.below HBq.out)
        have RYq := Lib.hid (RY.out.below HBq.out)
        obtain ⟨c0, c1, c2, -, -, -⟩ := KXq.out.o3
        obtain ⟨e0, e1, e2, -, -, -⟩ := KYq.out.o3
        by_cases hlq : q < NO
        · have hlq' : (q : Int) < O := by rw [EO.out]; omega
          obtain ⟨AX, eAX⟩ : ∃ AX, turnAt I O l n q = AX := ⟨_, rfl⟩
          obtain ⟨AY, eAY⟩ : ∃ AY, turnAt J M m n q = AY := ⟨_, rfl⟩
          have hnx : preB I O J M l m (n * NO + (q + 1)) = (b && (AX == AY)) := by
            rw [HQ.out, ← eAX, ← eAY]
            exact preB_step HN.out HN2.out HS2.out EI.out EO.out hlt hlq
          have EAX := Lib.hid eAX
          have EAY := Lib.hid eAY
          have HNX' := Lib.hid hnx
          clear hnx eAX eAY
          go_upto_region 13 with (fail)
          clear c0 c1 c2 e0 e1 e2
          cases b with
          | true =>
            have HNX : Hid ((AX == AY) = preB I O J M l m (n * NO + (q + 1))) := Lib.hid (by rw [HNX'.out]; simp)
            have hGS : Grows (fun w' => Below wr.heap.size wr w') := Grows.below wr
            refine' wp_thenL _ 12 (fun w' => Below wr.heap.size wr w') [[], [0], [1], [1], [1], [1, 2, 3, 4], [1], [1], [1], [1, 6, 7, 8], [1, 5, 9], [1, 10]] (Fact.lit _ :: Fact.lit _ :: Fact.lit _ :: Fact.lit _ :: Fact.lit _ :: Fact.lit _ :: Fact.lit _ :: Fact.lit _ :: Fact.lit _ :: Fact.lit _ :: Fact.lit _ :: Fact.lit _ :: []) (by kernel_rfl) rfl (by kernel_rfl) (Below.refl _ _).drew ?seqthirteent
            case' seqthirteent => skip
            (first | (refine' grow_skip rfl ?wt3 ?put3 ?next3; (case wt3 => rfl)) | (refine' grow_lit rfl ?wt3 ?run3 ?put3 ?next3; (case wt3 => rfl); (case run3 => (intro w' hS H; clear H; (obtain ⟨a0, a1, a2, -, -, -⟩ := (KXq.out.keep hS).o3); (obtain ⟨b0, b1, b2, -, -, -⟩ := (KYq.out.keep hS).o3); clear hS; go_simp; first | done | exact rfl)))); (case put3 => (simp only [Act.put, List.setIfInBounds_toArray, List.set_cons_zero, List.set_cons_succ]; first | done | exact rfl)); (case' next3 => skip)
            (first | (refine' grow_skip rfl ?wt4 ?put4 ?next4; (case wt4 => rfl)) | (refine' grow_lit rfl ?wt4 ?run4 ?put4 ?next4; (case wt4 => rfl); (case run4 => (intro w' hS H; clear H; (obtain ⟨a0, a1, a2, -, -, -⟩ := (KXq.out.keep hS).o3); (obtain ⟨b0, b1, b2, -, -, -⟩ := (KYq.out.keep hS).o3); clear hS; go_simp; first | done | exact rfl)))); (case put4 => (simp only [Act.put, List.setIfInBounds_toArray, List.set_cons_zero, List.set_cons_succ]; first | done | exact rfl)); (case' next4 => skip)
            (first | (refine' grow_skip rfl ?wt5 ?put5 ?next5; (case wt5 => rfl)) | (refine' grow_lit rfl ?wt5 ?run5 ?put5 ?next5; (case wt5 => rfl); (case run5 => (intro w' hS H; clear H; (obtain ⟨a0, a1, a2, -, -, -⟩ := (KXq.out.keep hS).o3); (obtain ⟨b0, b1, b2, -, -, -⟩ := (KYq.out.keep hS).o3); clear hS; go_simp; first | done | exact rfl)))); (case put5 => (simp only [Act.put, List.setIfInBounds_toArray, List.set_cons_zero, List.set_cons_succ]; first | done | exact rfl)); (case' next5 => skip)
            (first | (refine' grow_skip rfl ?wt6 ?put6 ?next6; (case wt6 => rfl)) | (refine' grow_lit rfl ?wt6 ?run6 ?put6 ?next6; (case wt6 => rfl); (case run6 => (intro w' hS H; clear H; (obtain ⟨a0, a1, a2, -, -, -⟩ := (KXq.out.keep hS).o3); (obtain ⟨b0, b1, b2, -, -, -⟩ := (KYq.out.keep hS).o3); clear hS; go_simp; first | done | exact rfl)))); (case put6 => (simp only [Act.put, List.setIfInBounds_toArray, List.set_cons_zero, List.set_cons_succ]; first | done | exact rfl)); (case' next6 => skip)
            (first | (refine' grow_skip rfl ?wt7 ?put7 ?next7; (case wt7 => rfl)) | (refine' grow_lit rfl ?wt7 ?run7 ?put7 ?next7; (case wt7 => rfl); (case run7 => (intro w' hS H; clear H; (obtain ⟨a0, a1, a2, -, -, -⟩ := (KXq.out.keep hS).o3); (obtain ⟨b0, b1, b2, -, -, -⟩ := (KYq.out.keep hS).o3); clear hS; go_simp; first | done | exact rfl)))); (case put7 => (simp only [Act.put, List.setIfInBounds_toArray, List.set_cons_zero, List.set_cons_succ]; first | done | exact rfl)); (case' next7 => skip)
            (refine' grow_call (u := .int .i64 AX) rfl Tryd.func17 (by kernel_rfl) rfl hGS rfl ?wt27 ?run27 ?put27 ?next27; (case wt27 => rfl); (case run27 => (intro w' hS H; exact (tat_any I O _ l n q w' HS.out HN.out (RXq.out.below hS)).mono (fun e w2 h => ⟨h.1.trans (by rw [EAX.out]), h.2⟩))); (case put27 => (simp only [Act.put, List.setIfInBounds_toArray, List.set_cons_zero, List.set_cons_succ]; first | done | exact rfl)); (case' next27 => skip))
            (first | (refine' grow_skip rfl ?wt8 ?put8 ?next8; (case wt8 => rfl)) | (refine' grow_lit rfl ?wt8 ?run8 ?put8 ?next8; (case wt8 => rfl); (case run8 => (intro w' hS H; clear H; (obtain ⟨a0, a1, a2, -, -, -⟩ := (KXq.out.keep hS).o3); (obtain ⟨b0, b1, b2, -, -, -⟩ := (KYq.out.keep hS).o3); clear hS; go_simp; first | done | exact rfl)))); (case put8 => (simp only [Act.put, List.setIfInBounds_toArray, List.set_cons_zero, List.set_cons_succ]; first | done | exact rfl)); (case' next8 => skip)
            (first | (refine' grow_skip rfl ?wt9 ?put9 ?next9; (case wt9 => rfl)) | (refine' grow_lit rfl ?wt9 ?run9 ?put9 ?next9; (case wt9 => rfl); (case run9 => (intro w' hS H; clear H; (obtain ⟨a0, a1, a2, -, -, -⟩ := (KXq.out.keep hS).o3); (obtain ⟨b0, b1, b2, -, -, -⟩ := (KYq.out.keep hS).o3); clear hS; go_simp; first | done | exact rfl)))); (case put9 => (simp only [Act.put, List.setIfInBounds_toArray, List.set_cons_zero, List.set_cons_succ]; first | done | exact rfl)); (case' next9 => skip)
            (first | (refine' grow_skip rfl ?wt10 ?put10 ?next10; (case wt10 => rfl)) | (refine' grow_lit rfl ?wt10 ?run10 ?put10 ?next10; (case wt10 => rfl); (case run10 => (intro w' hS H; clear H; (obtain ⟨a0, a1, a2, -, -, -⟩ := (KXq.out.keep hS).o3); (obtain ⟨b0, b1, b2, -, -, -⟩ := (KYq.out.keep hS).o3); clear hS; go_simp; first | done | exact rfl)))); (case put10 => (simp only [Act.put, List.setIfInBounds_toArray, List.set_cons_zero, List.set_cons_succ]; first | done | exact rfl)); (case' next10 => skip)
            (refine' grow_call (u := .int .i64 AY) rfl Tryd.func17 (by kernel_rfl) rfl hGS rfl ?wt28 ?run28 ?put28 ?next28; (case wt28 => rfl); (case run28 => (intro w' hS H; exact (tat_any J M _ m n q w' HS2.out HN2.out (RYq.out.below hS)).mono (fun e w2 h => ⟨h.1.trans (by rw [EAY.out]), h.2⟩))); (case put28 => (simp only [Act.put, List.setIfInBounds_toArray, List.set_cons_zero, List.set_cons_succ]; first | done | exact rfl)); (case' next28 => skip))
            (first | (refine' grow_skip rfl ?wt11 ?put11 ?next11; (case wt11 => rfl)) | (refine' grow_lit rfl ?wt11 ?run11 ?put11 ?next11; (case wt11 => rfl); (case run11 => (intro w' hS H; clear H; (obtain ⟨a0, a1, a2, -, -, -⟩ := (KXq.out.keep hS).o3); (obtain ⟨b0, b1, b2, -, -, -⟩ := (KYq.out.keep hS).o3); clear hS; go_simp; first | done | exact rfl)))); (case put11 => (simp only [Act.put, List.setIfInBounds_toArray, List.set_cons_zero, List.set_cons_succ]; first | done | exact rfl)); (case' next11 => skip)
            (first | (refine' grow_skip rfl ?wt12 ?put12 ?next12; (case wt12 => rfl)) | (refine' grow_lit rfl ?wt12 ?run12 ?put12 ?next12; (case wt12 => rfl); (case run12 => (intro w' hS H; clear H; (obtain ⟨a0, a1, a2, -, -, -⟩ := (KXq.out.keep hS).o3); (obtain ⟨b0, b1, b2, -, -, -⟩ := (KYq.out.keep hS).o3); clear hS; go_simp; first | done | exact rfl)))); (case put12 => (simp only [Act.put, List.setIfInBounds_toArray, List.set_cons_zero, List.set_cons_succ]; first | done | exact rfl)); (case' next12 => skip)
            intro w' hS _
            refine wpAny_ready (rs := [12]) (by kernel_rfl) (by simp) (AllReady.cons rfl (fun K hK => ?_) AllReady.nil)
            go_simp
            refine hK _ _ ?_
            clear hK K
            refine wpAny_done (by kernel_rfl) ?_ _
            have HBn := Lib.hid (HBq.out.trans (hS.mono HBq.out.size))
            clear hS hGS
            obtain ⟨c0, c1, c2, -, -, -⟩ := (KX.out.keep HBn.out).o3
            obtain ⟨e0, e1, e2, -, -, -⟩ := (KY.out.keep HBn.out).o3
            go_wp2_with fail
            go_roundw
            case rel => exact ⟨q + 1, _, by omega, by go_num, rfl, HNX, HBn⟩
            case measure => simp [intOf]; omega

          | false =>
            have HNX : Hid (false = preB I O J M l m (n * NO + (q + 1))) := Lib.hid (by rw [HNX'.out]; simp)
            have hGS : Grows (fun w' => Below wr.heap.size wr w') := Grows.below wr
            refine' wp_thenL _ 12 (fun w' => Below wr.heap.size wr w') [[], [0], [1], [1], [1], [1, 2, 3, 4], [1], [1], [1], [1, 6, 7, 8], [1, 5, 9], [1, 10]] (Fact.lit _ :: Fact.lit _ :: Fact.lit _ :: Fact.lit _ :: Fact.lit _ :: Fact.lit _ :: Fact.lit _ :: Fact.lit _ :: Fact.lit _ :: Fact.lit _ :: Fact.lit _ :: Fact.lit _ :: []) (by kernel_rfl) rfl (by kernel_rfl) (Below.refl _ _).drew ?seqthirteenf
            case' seqthirteenf => skip
            (first | (refine' grow_skip rfl ?wt13 ?put13 ?next13; (case wt13 => rfl)) | (refine' grow_lit rfl ?wt13 ?run13 ?put13 ?next13; (case wt13 => rfl); (case run13 => (intro w' hS H; clear H; (obtain ⟨a0, a1, a2, -, -, -⟩ := (KXq.out.keep hS).o3); (obtain ⟨b0, b1, b2, -, -, -⟩ := (KYq.out.keep hS).o3); clear hS; go_simp; first | done | exact rfl)))); (case put13 => (simp only [Act.put, List.setIfInBounds_toArray, List.set_cons_zero, List.set_cons_succ]; first | done | exact rfl)); (case' next13 => skip)
            (first | (refine' grow_skip rfl ?wt14 ?put14 ?next14; (case wt14 => rfl)) | (refine' grow_lit rfl ?wt14 ?run14 ?put14 ?next14; (case wt14 => rfl); (case run14 => (intro w' hS H; clear H; (obtain ⟨a0, a1, a2, -, -, -⟩ := (KXq.out.keep hS).o3); (obtain ⟨b0, b1, b2, -, -, -⟩ := (KYq.out.keep hS).o3); clear hS; go_simp; first | done | exact rfl)))); (case put14 => (simp only [Act.put, List.setIfInBounds_toArray, List.set_cons_zero, List.set_cons_succ]; first | done | exact rfl)); (case' next14 => skip)
            (first | (refine' grow_skip rfl ?wt15 ?put15 ?next15; (case wt15 => rfl)) | (refine' grow_lit rfl ?wt15 ?run15 ?put15 ?next15; (case wt15 => rfl); (case run15 => (intro w' hS H; clear H; (obtain ⟨a0, a1, a2, -, -, -⟩ := (KXq.out.keep hS).o3); (obtain ⟨b0, b1, b2, -, -, -⟩ := (KYq.out.keep hS).o3); clear hS; go_simp; first | done | exact rfl)))); (case put15 => (simp only [Act.put, List.setIfInBounds_toArray, List.set_cons_zero, List.set_cons_succ]; first | done | exact rfl)); (case' next15 => skip)
            (first | (refine' grow_skip rfl ?wt16 ?put16 ?next16; (case wt16 => rfl)) | (refine' grow_lit rfl ?wt16 ?run16 ?put16 ?next16; (case wt16 => rfl); (case run16 => (intro w' hS H; clear H; (obtain ⟨a0, a1, a2, -, -, -⟩ := (KXq.out.keep hS).o3); (obtain ⟨b0, b1, b2, -, -, -⟩ := (KYq.out.keep hS).o3); clear hS; go_simp; first | done | exact rfl)))); (case put16 => (simp only [Act.put, List.setIfInBounds_toArray, List.set_cons_zero, List.set_cons_succ]; first | done | exact rfl)); (case' next16 => skip)
            (first | (refine' grow_skip rfl ?wt17 ?put17 ?next17; (case wt17 => rfl)) | (refine' grow_lit rfl ?wt17 ?run17 ?put17 ?next17; (case wt17 => rfl); (case run17 => (intro w' hS H; clear H; (obtain ⟨a0, a1, a2, -, -, -⟩ := (KXq.out.keep hS).o3); (obtain ⟨b0, b1, b2, -, -, -⟩ := (KYq.out.keep hS).o3); clear hS; go_simp; first | done | exact rfl)))); (case put17 => (simp only [Act.put, List.setIfInBounds_toArray, List.set_cons_zero, List.set_cons_succ]; first | done | exact rfl)); (case' next17 => skip)
            (first | (refine' grow_skip rfl ?wt18 ?put18 ?next18; (case wt18 => rfl)) | (refine' grow_lit rfl ?wt18 ?run18 ?put18 ?next18; (case wt18 => rfl); (case run18 => (intro w' hS H; clear H; (obtain ⟨a0, a1, a2, -, -, -⟩ := (KXq.out.keep hS).o3); (obtain ⟨b0, b1, b2, -, -, -⟩ := (KYq.out.keep hS).o3); clear hS; go_simp; first | done | exact rfl)))); (case put18 => (simp only [Act.put, List.setIfInBounds_toArray, List.set_cons_zero, List.set_cons_succ]; first | done | exact rfl)); (case' next18 => skip)
            (first | (refine' grow_skip rfl ?wt19 ?put19 ?next19; (case wt19 => rfl)) | (refine' grow_lit rfl ?wt19 ?run19 ?put19 ?next19; (case wt19 => rfl); (case run19 => (intro w' hS H; clear H; (obtain ⟨a0, a1, a2, -, -, -⟩ := (KXq.out.keep hS).o3); (obtain ⟨b0, b1, b2, -, -, -⟩ := (KYq.out.keep hS).o3); clear hS; go_simp; first | done | exact rfl)))); (case put19 => (simp only [Act.put, List.setIfInBounds_toArray, List.set_cons_zero, List.set_cons_succ]; first | done | exact rfl)); (case' next19 => skip)
            (first | (refine' grow_skip rfl ?wt20 ?put20 ?next20; (case wt20 => rfl)) | (refine' grow_lit rfl ?wt20 ?run20 ?put20 ?next20; (case wt20 => rfl); (case run20 => (intro w' hS H; clear H; (obtain ⟨a0, a1, a2, -, -, -⟩ := (KXq.out.keep hS).o3); (obtain ⟨b0, b1, b2, -, -, -⟩ := (KYq.out.keep hS).o3); clear hS; go_simp; first | done | exact rfl)))); (case put20 => (simp only [Act.put, List.setIfInBounds_toArray, List.set_cons_zero, List.set_cons_succ]; first | done | exact rfl)); (case' next20 => skip)
            (first | (refine' grow_skip rfl ?wt21 ?put21 ?next21; (case wt21 => rfl)) | (refine' grow_lit rfl ?wt21 ?run21 ?put21 ?next21; (case wt21 => rfl); (case run21 => (intro w' hS H; clear H; (obtain ⟨a0, a1, a2, -, -, -⟩ := (KXq.out.keep hS).o3); (obtain ⟨b0, b1, b2, -, -, -⟩ := (KYq.out.keep hS).o3); clear hS; go_simp; first | done | exact rfl)))); (case put21 => (simp only [Act.put, List.setIfInBounds_toArray, List.set_cons_zero, List.set_cons_succ]; first | done | exact rfl)); (case' next21 => skip)
            (first | (refine' grow_skip rfl ?wt22 ?put22 ?next22; (case wt22 => rfl)) | (refine' grow_lit rfl ?wt22 ?run22 ?put22 ?next22; (case wt22 => rfl); (case run22 => (intro w' hS H; clear H; (obtain ⟨a0, a1, a2, -, -, -⟩ := (KXq.out.keep hS).o3); (obtain ⟨b0, b1, b2, -, -, -⟩ := (KYq.out.keep hS).o3); clear hS; go_simp; first | done | exact rfl)))); (case put22 => (simp only [Act.put, List.setIfInBounds_toArray, List.set_cons_zero, List.set_cons_succ]; first | done | exact rfl)); (case' next22 => skip)
            (first | (refine' grow_skip rfl ?wt23 ?put23 ?next23; (case wt23 => rfl)) | (refine' grow_lit rfl ?wt23 ?run23 ?put23 ?next23; (case wt23 => rfl); (case run23 => (intro w' hS H; clear H; (obtain ⟨a0, a1, a2, -, -, -⟩ := (KXq.out.keep hS).o3); (obtain ⟨b0, b1, b2, -, -, -⟩ := (KYq.out.keep hS).o3); clear hS; go_simp; first | done | exact rfl)))); (case put23 => (simp only [Act.put, List.setIfInBounds_toArray, List.set_cons_zero, List.set_cons_succ]; first | done | exact rfl)); (case' next23 => skip)
            (first | (refine' grow_skip rfl ?wt24 ?put24 ?next24; (case wt24 => rfl)) | (refine' grow_lit rfl ?wt24 ?run24 ?put24 ?next24; (case wt24 => rfl); (case run24 => (intro w' hS H; clear H; (obtain ⟨a0, a1, a2, -, -, -⟩ := (KXq.out.keep hS).o3); (obtain ⟨b0, b1, b2, -, -, -⟩ := (KYq.out.keep hS).o3); clear hS; go_simp; first | done | exact rfl)))); (case put24 => (simp only [Act.put, List.setIfInBounds_toArray, List.set_cons_zero, List.set_cons_succ]; first | done | exact rfl)); (case' next24 => skip)
            intro w' hS _
            refine wpAny_ready (rs := [12]) (by kernel_rfl) (by simp) (AllReady.cons rfl (fun K hK => ?_) AllReady.nil)
            go_simp
            refine hK _ _ ?_
            clear hK K
            refine wpAny_done (by kernel_rfl) ?_ _
            have HBn := Lib.hid (HBq.out.trans (hS.mono HBq.out.size))
            clear hS hGS
            obtain ⟨c0, c1, c2, -, -, -⟩ := (KX.out.keep HBn.out).o3
            obtain ⟨e0, e1, e2, -, -, -⟩ := (KY.out.keep HBn.out).o3
            go_wp2_with fail
            go_roundw
            case rel => exact ⟨q + 1, _, by omega, by go_num, rfl, HNX, HBn⟩
            case measure => simp [intOf]; omega

        · obtain rfl : q = NO := by omega
          have hlq' : ¬ (q : Int) < O := by rw [EO.out]; omega
          have hq2 : O ≤ (q : Int) := by omega
          go_wp2_with fail
          go_roundw
          case rel => exact ⟨n + 1, _, by omega, by go_num, rfl, Lib.hid (by rw [HQ.out, Nat.add_mul, Nat.one_mul]), HBq⟩
          case measure => simp [intOf]; omega
    · have hfin : b = F := by
        rw [HP.out, EF.out]
        exact preB_end HN.out HN2.out HLEN.out (by
          by_cases h : n < NI
          · right; rw [← HP.out]; cases b with
            | true => exact absurd ⟨h, rfl⟩ hgo
            | false => rfl
          · left; omega)
      subst hfin
      have hFx : Hid (decide (I = J ∧ O = M ∧ l = m) = b) := Lib.hid EF.out.symm
      have hFy : Hid (decide (J = I ∧ M = O ∧ m = l) = b) := Lib.hid (by
        rw [EF.out]
        congr 1
        exact propext ⟨fun ⟨h1, h2, h3⟩ => ⟨h1.symm, h2.symm, h3.symm⟩, fun ⟨h1, h2, h3⟩ => ⟨h1.symm, h2.symm, h3.symm⟩⟩)
      have hway : (I ≤ (n : Int)) ∨ ((n : Int) < I ∧ b = false) := by
        by_cases h : n < NI
        · right; refine ⟨by rw [EI.out]; omega, ?_⟩
          cases b with
          | true => exact absurd ⟨h, rfl⟩ hgo
          | false => rfl
        · left; rw [EI.out]; omega
      clear hgo
      rcases hway with hway | ⟨hway, rfl⟩
      all_goals
        go_wp2_with fail
        refine (tsame_any I O J M _ _ l m _ (RX.out.below HBr.out) (RY.out.below HBr.out)).mono ?_
        rw [hFx.out]
        rintro e w' ⟨rfl, hb⟩
        clear c0 c1 c2 e0 e1 e2
        have HBs := Lib.hid (HBr.out.trans (hb.mono HBr.out.size))
        clear hb
        obtain ⟨c0, c1, c2, -, -, -⟩ := (KX.out.keep HBs.out).o3
        obtain ⟨e0, e1, e2, -, -, -⟩ := (KY.out.keep HBs.out).o3
        go_wp2_with fail
        refine (tsame_any J M I O _ _ m l _ (RY.out.below HBs.out) (RX.out.below HBs.out)).mono ?_
        rw [hFy.out]
        rintro e w' ⟨rfl, hb⟩
        have HBt := Lib.hid (BX.out.trans ((HBs.out.trans (hb.mono HBs.out.size)).mono BX.out.size))
        clear hb
        go_wp2_with fail
        go_ret
        exact ⟨rfl, HBt.out⟩

theorem apart_walk (v : Value) (I O : Int) (ul : Value) (l : List Int) (u : Value) (J M : Int) (um : Value) (m : List Int) (w : World) (hg : ErrT w) (hv : TabIn w v I O ul l) (hu : TabIn w u J M um m) :
    Calls Tryd.prog 7 #[v, u] w fun e w' => e = .returned (.bool true) ∧ Below w.heap.size w w' := by
  have mk : ∀ {I O : Int} {l : List Int}, (chkT I O l).2 = 0 → chkT I O l = (0, 0) := fun h => by
    obtain ⟨q0, q1, q2, q3, hn, hall⟩ := chkT_ok h
    exact chkT_mk ⟨q0, q1⟩ ⟨q2, q3⟩ hn hall
  by_cases h : 300 < l.length ∨ 300 < m.length
  · exact apart_long v I O ul l u J M um m w hg hv hu h
  by_cases ha : (chkT I O l).2 = 0
  · by_cases hb : (chkT J M m).2 = 0
    · obtain ⟨q0, q1, q2, q3, -, -⟩ := chkT_ok ha
      obtain ⟨r0, r1, r2, r3, -, -⟩ := chkT_ok hb
      obtain ⟨NI, rfl⟩ : ∃ n : Nat, I = n := ⟨I.toNat, by omega⟩
      obtain ⟨NO, rfl⟩ : ∃ n : Nat, O = n := ⟨O.toNat, by omega⟩
      obtain ⟨NJ, rfl⟩ : ∃ n : Nat, J = n := ⟨J.toNat, by omega⟩
      obtain ⟨NM, rfl⟩ : ∃ n : Nat, M = n := ⟨M.toNat, by omega⟩
      exact apart_ok v NI NO ul l u NJ NM um m w hg hv hu (by omega) (by omega) (mk ha) (mk hb)
    · exact apart_bad2 v I O ul l u J M um m w hg hv hu (by omega) (by omega) (mk ha) hb
  · exact apart_bad1 v I O ul l u J M um m w hg hv hu (by omega) (by omega) ha

set_option maxRecDepth 100000 in
theorem turnApart_walks : Walks laidAll 7 Tryd.f7 := by
  intro H enc W args ds g
  obtain ⟨ps, hA⟩ := g.reads
  obtain ⟨base, hval⟩ := g.okay
  rw [Tryd.params7] at hA hval
  obtain ⟨v0, vs0, d0, ds0, p0, q0, hargs, rfl, rfl, h0, r0⟩ := trodAll_cons hA
  obtain ⟨v1, vs1, d1, ds1, p1, q1, rfl, rfl, rfl, h1, r1⟩ := trodAll_cons r0
  obtain ⟨rfl, rfl, rfl⟩ := trodAll_nil r1
  obtain rfl : args = #[v0, v1] := Array.toList_inj.1 hargs
  obtain ⟨I0, O0, u0, l0, T0⟩ := open_tab (hval 0 24 v0 rfl rfl) h0
  obtain ⟨I1, O1, u1, l1, T1⟩ := open_tab (hval 1 24 v1 rfl rfl) h1
  exact apart_walk v0 I0 O0 u0 l0 v1 I1 O1 u1 l1 W (errT_of_laid g.laid) T0 T1

theorem turnApart_row : Rows.TurnApartSaid :=
  OpenClaim.holds_of_wide 7 Tryd.f7 rfl rfl rfl rfl rfl rfl rfl ⟨rfl, rfl, rfl, rfl, rfl⟩ rfl rfl rfl rfl rfl (by kernel_rfl) Tryd.func7 (by kernel_rfl)
    (of_decide_eq_true (by kernel_rfl)) (by unfold Func.isWrapper; rw [if_neg (of_decide_eq_false (by kernel_rfl))]; exact ⟨rfl, rfl⟩)
    (fun os started H enc _ => law_lifted (s := Rows.turnApartSpec) (L := laidAll) Tryd.func7 (by kernel_rfl) rfl (by kernel_rfl)
      (fun H ds hl => by
        rw [Tryd.params7] at hl
        match ds, hl with
        | [_, _], _ => exact ⟨rfl, rfl, rfl⟩)
      (by kernel_rfl) os started H enc
      (ChangeSpec.witness_at (enc := enc) (C := Tryd.checked) (os := os) (X := fun w _ => laidMetH Tryd.prog laidAll w) false (laidWorld os) #[.agg #[.int .i64 0, .int .i64 0, .slice none 0 0], .agg #[.int .i64 0, .int .i64 0, .slice none 0 0]] 8 rfl (by kernel_rfl) (by kernel_rfl) (by kernel_rfl) (by kernel_rfl) (by kernel_rfl) (laidWorld_met os _))
      turnApart_walks)

theorem turnApart_card : Rows.TurnApartCardSaid :=
  Claim7.holds_tied_plain_at .later [] laidKindsAll true (Rows.turnApartCard.stood.harness) true
    turnApart_row (fun _ h => by cases h) (by kernel_rfl) (fun _ h => by cases h) turnApart_row_tie rfl ⟨rfl, rfl⟩ (by kernel_rfl) rfl
    (fun f fn hf hfn => by
      obtain rfl : f = 7 := Option.some.inj ((show Tryd.prog.funcNamed "roundsman/roundsmanlaw2.TurnApart" = some 7 by kernel_rfl).symm.trans hf) |>.symm
      obtain rfl : fn = Tryd.f7 := (Option.some.inj (Tryd.func7.symm.trans hfn)).symm
      exact ⟨by kernel_rfl, fun j t ht => by
        rw [Tryd.params7] at ht
        exact stand_all #[24, 24] (by kernel_rfl) j t ht⟩)
    (by kernel_rfl)
#print axioms turnApart_card

end Go.Proofs.YtboimdgldjimpaaDoor
