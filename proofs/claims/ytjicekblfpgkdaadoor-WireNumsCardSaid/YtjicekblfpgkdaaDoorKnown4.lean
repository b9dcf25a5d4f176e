/-
  What a Reader's calls answer, by values; the law's own sample of known answers.
-/
import Derived.Test.YtjicekblfpgkdaaDoorWQ
import Derived.Test.YtjicekblfpgkdaaDoorWS
import Derived.Test.YtjicekblfpgkdaaDoorAtW
import Derived.Test.YtjicekblfpgkdaaDoorTells
namespace Go.Proofs.YtjicekblfpgkdaaDoor
open Go.RowKit

/-- A Reader's pointer. -/
abbrev rp (b : Nat) : Value := .pointer (some ⟨b, 0, none⟩)
theorem vU {w : World} {lo b a a' : Nat} {l : List Int} {e e' M V : Int} (h : RdV w lo b l a e) (hr : uintR l a e M = (V, a', e')) :
    Calls Tryd.prog 14 #[rp b, .int .u64 M] w fun ev w' => ev = .returned (.int .u64 V) ∧ RdV w' lo b l a' e' ∧ But b w w' := by
  obtain ⟨q, c, x, h⟩ := h
  refine (uint_any h M).mono ?_
  rintro ev w' ⟨h1, h2, h3⟩
  rw [hr] at h1 h2
  exact ⟨h1, h2, h3⟩
theorem vI {w : World} {lo b a a' : Nat} {l : List Int} {e e' M V : Int} (h : RdV w lo b l a e) (hr : intR l a e M = (V, a', e')) :
    Calls Tryd.prog 15 #[rp b, .int .u64 M] w fun ev w' => ev = .returned (.int .i64 V) ∧ RdV w' lo b l a' e' ∧ But b w w' := by
  obtain ⟨q, c, x, h⟩ := h
  refine (int_any h M).mono ?_
  rintro ev w' ⟨h1, h2, h3⟩
  rw [hr] at h1 h2
  exact ⟨h1, h2, h3⟩
theorem vB {w : World} {lo b a a' : Nat} {l m : List Int} {e e' n : Int} (h : RdV w lo b l a e) (hr : bytesR l a e n = (m, a', e')) (n0 : -9223372036854775808 ≤ n) (n1 : n ≤ 9223372036854775807) :
    Calls Tryd.prog 23 #[rp b, .int .i64 n] w fun ev w' => ∃ v, ev = .returned v ∧ U8s w' v m ∧ RdV w' lo b l a' e' ∧ But b w w' := by
  obtain ⟨q, c, x, h⟩ := h
  refine (bytes_any h n n0 n1).mono ?_
  rintro ev w' ⟨v, h1, h2, h3, h4⟩
  rw [hr] at h2 h3
  exact ⟨v, h1, h2, h3, h4⟩
theorem vAt {w : World} {lo b a : Nat} {l : List Int} {e : Int} (h : RdV w lo b l a e) : Calls Tryd.prog 17 #[rp b] w fun ev w' => ev = .returned (.int .i64 a) ∧ Below w.heap.size w w' := by
  obtain ⟨q, c, x, h⟩ := h
  refine (at_any8 h).mono ?_
  rintro ev w' ⟨h1, rfl⟩
  exact ⟨h1, Below.refl _ _⟩
theorem vErr0 {w : World} {lo b a : Nat} {l : List Int} (h : RdV w lo b l a 0) : Calls Tryd.prog 18 #[rp b] w fun ev w' => ev = .returned .nilIface ∧ Below w.heap.size w w' := by
  obtain ⟨q, c, x, h⟩ := h
  exact err_none h rfl
/-- An error at a place. -/
def FltAt (w : World) (v : Value) (a e : Int) : Prop := ErrV w v [(byteB, a)] e ∧ ∃ k, v = .iface 61 (.pointer (some ⟨k, 0, none⟩))
theorem FltAt.below {w w' : World} {v : Value} {a e : Int} (h : FltAt w v a e) (hb : Below w.heap.size w w') : FltAt w' v a e := ⟨h.1.below hb, h.2⟩
theorem vErr {w : World} {lo b a : Nat} {l : List Int} {e : Int} (h : RdV w lo b l a e) (he : ¬ e = 0) : Calls Tryd.prog 18 #[rp b] w fun ev w' => ∃ v, ev = .returned v ∧ FltAt w' v a e ∧ Below w.heap.size w w' := by
  obtain ⟨q, c, x, h⟩ := h
  exact (err_some h he).mono fun ev w' ⟨v, h1, h2, h3, h4⟩ => ⟨v, h1, ⟨h2, h3⟩, h4⟩
theorem vDone0 {w : World} {lo b a : Nat} {l : List Int} (h : RdV w lo b l a 0) (ha : ¬ a < l.length) : Calls Tryd.prog 16 #[rp b] w fun ev w' => ev = .returned .nilIface ∧ Below w.heap.size w w' := by
  obtain ⟨q, c, x, h⟩ := h
  exact done_none h rfl ha
theorem vDoneL {w : World} {lo b a : Nat} {l : List Int} (h : RdV w lo b l a 0) (ha : a < l.length) : Calls Tryd.prog 16 #[rp b] w fun ev w' => ∃ v, ev = .returned v ∧ FltAt w' v a 4 ∧ Below w.heap.size w w' := by
  obtain ⟨q, c, x, h⟩ := h
  exact (done_long h rfl ha).mono fun ev w' ⟨v, h1, h2, h3, h4⟩ => ⟨v, h1, ⟨h2, h3⟩, h4⟩
theorem vDone {w : World} {lo b a : Nat} {l : List Int} {e : Int} (h : RdV w lo b l a e) (he : ¬ e = 0) : Calls Tryd.prog 16 #[rp b] w fun ev w' => ∃ v, ev = .returned v ∧ FltAt w' v a e ∧ Below w.heap.size w w' := by
  obtain ⟨q, c, x, h⟩ := h
  exact (done_some h he).mono fun ev w' ⟨v, h1, h2, h3, h4⟩ => ⟨v, h1, ⟨h2, h3⟩, h4⟩
/-- The document's word of it. -/
def WroAt (w : World) (v : Value) (a e : Int) : Prop := WrongV w v [(byteB, a)] e ∧ ∃ q n c, v = .agg #[.slice q n c, .int .i64 e]
theorem WroAt.below {w w' : World} {v : Value} {a e : Int} (h : WroAt w v a e) (hb : Below w.heap.size w w') : WroAt w' v a e := ⟨h.1.below hb, h.2⟩
theorem vAt6 (a e : Int) (w : World) : Calls Tryd.prog 20 #[.string byteB, .int .i64 a, .int .i64 e] w fun ev w' => ∃ v, ev = .returned v ∧ WroAt w' v a e ∧ Below w.heap.size w w' := by
  refine (at_any byteB a e w).mono ?_
  rintro ev w' ⟨rfl, rfl⟩
  exact ⟨_, rfl, ⟨atWorld_wrong byteB a e w, _, _, _, rfl⟩, atWorld_below byteB a e w⟩
theorem vTells {w : World} {v u : Value} {a e : Int} (hg : ErrT w) (h : FltAt w v a e) (k : WroAt w u a e) (he : ¬ e = 0) : Calls Tryd.prog 19 #[v, u] w fun ev w' => ev = .returned (.bool true) ∧ Below w.heap.size w w' :=
  tells_any v u [(byteB, a)] e w hg h.1 k.1 (by simp) (by simp) he
theorem ErrT.old {w w' : World} (hb : Below w.heap.size w w') (h : ErrT w) : ErrT w' := (hb.cell h.lt).trans h
/-- A world that has grown, some of what it made written again. -/
theorem bOn {w0 w w' : World} (h : Below w0.heap.size w0 w) (hb : Below w.heap.size w w') : Below w0.heap.size w0 w' := h.trans (hb.mono h.size)
theorem bOnB {w0 w w' : World} {b : Nat} (h : Below w0.heap.size w0 w) (hb : But b w w') (hl : w0.heap.size ≤ b) : Below w0.heap.size w0 w' := h.trans (hb.below hl h.size)
theorem text_of {w : World} {v : Value} {l : List Int} {s : ByteArray} (h : U8s w v l) (e : strOfNums l = s) : (convert 26 9 v).run Tryd.prog w = .ok (.string s) w := e ▸ text8 w v l h

set_option maxRecDepth 100000 in
set_option maxHeartbeats 4000000 in
theorem known4_any (w : World) (hg : ErrT w) : Calls Tryd.prog 8 #[] w fun e w' => e = .returned (.bool true) ∧ Below w.heap.size w w' := by
  have HG := Lib.hid hg
  clear hg
  go_enter Tryd.func8, Tryd.ntmps8
  go_wp2_with fail
  refine (new_any _ [172, 2, 3, 7] _ ⟨_, U8at.lit w [172, 2, 3, 7] (by simp) _ rfl⟩ (by intro x hx; simp at hx; omega) (by simp)).mono ?_
  rintro ev w1 ⟨b, rfl, hr, hb⟩
  have z1 : w.heap.size ≤ b := by have := hr.lt; simp at this; omega
  have HR := Lib.hid hr
  have B := Lib.hid (bOn (below_new8 _) hb)
  clear hr hb
  go_wp2_with fail
  refine (vU (V := 300) (a' := 2) (e' := 0) HR.out (by decide)).mono ?_
  rintro ev w2 ⟨rfl, hr, hb⟩
  have HR' := Lib.hid hr
  have B' := Lib.hid (bOnB B.out hb z1)
  clear hr hb HR B
  go_wp2_with fail
  refine (vI (V := -2) (a' := 3) (e' := 0) HR'.out (by decide)).mono ?_
  rintro ev w3 ⟨rfl, hr, hb⟩
  have HR := Lib.hid hr
  have B := Lib.hid (bOnB B'.out hb z1)
  clear hr hb HR' B'
  go_wp2_with fail
  refine (vDoneL HR.out (by decide)).mono ?_
  rintro ev w4 ⟨v4, rfl, h4, hb⟩
  have HE := Lib.hid h4
  have HR' := Lib.hid (HR.out.below hb)
  have B' := Lib.hid (bOn B.out hb)
  have BE := Lib.hid (Below.refl w4.heap.size w4)
  clear h4 hb HR B
  go_wp2_with fail
  refine (new_any _ [128, 0] _ ⟨_, U8at.lit w4 [128, 0] (by simp) _ rfl⟩ (by intro x hx; simp at hx; omega) (by simp)).mono ?_
  rintro ev w5 ⟨c, rfl, hr, hb⟩
  have z2 : b < c := by have := hr.lt; have := HR'.out.lt; simp at *; omega
  have z3 : w4.heap.size ≤ c := by have := hr.lt; simp at *; omega
  have z4 : ∀ o, b < (w4.alloc o).heap.size := by intro o; have := HR'.out.lt; simp at *; omega
  have hb' := bOn (below_new8 (w := w4) (.cells #[.int .u8 128, .int .u8 0] 5)) hb
  have HS := Lib.hid hr
  have HR := Lib.hid (HR'.out.below hb')
  have B := Lib.hid (bOn B'.out hb')
  have BE' := Lib.hid (bOn BE.out hb')
  clear hr hb hb' HR' B' BE
  go_wp2_with fail
  refine (vU (V := 0) (a' := 0) (e' := 2) HS.out (by decide)).mono ?_
  rintro ev w6 ⟨rfl, hr, hb⟩
  have HS' := Lib.hid hr
  have HR' := Lib.hid (HR.out.but hb (Or.inr z2))
  have B' := Lib.hid (bOnB B.out hb (by omega))
  have BE := Lib.hid (bOnB BE'.out hb z3)
  clear hr hb HR B BE' HS
  have HE' := Lib.hid (HE.out.below BE.out)
  clear HE BE
  go_wp2_with fail
  refine (wuint_any 300 _ (by omega) (by omega)).mono ?_
  rintro ev w7 ⟨v7, x7, rfl, h7, -, hb⟩
  have q7 := text_of (s := ⟨#[172, 2]⟩) ⟨x7, h7⟩ (by decide)
  have HS := Lib.hid (HS'.out.below hb)
  have HR := Lib.hid (HR'.out.below hb)
  have B := Lib.hid (bOn B'.out hb)
  have HE := Lib.hid (HE'.out.below hb)
  clear hb h7 HS' HR' B' HE'
  go_wp2_with fail
  refine (wint_any (-2) _ (by omega) (by omega)).mono ?_
  rintro ev w8 ⟨v8, x8, rfl, h8, -, hb⟩
  have q8 := text_of (s := ⟨#[3]⟩) ⟨x8, h8⟩ (by decide)
  have HS' := Lib.hid (HS.out.below hb)
  have HR' := Lib.hid (HR.out.below hb)
  have B' := Lib.hid (bOn B.out hb)
  have HE' := Lib.hid (HE.out.below hb)
  clear hb h8 HS HR B HE q7
  go_wp2_with fail
  refine (vAt HR'.out).mono ?_
  rintro ev w9 ⟨rfl, hb⟩
  have HS := Lib.hid (HS'.out.below hb)
  have HR := Lib.hid (HR'.out.below hb)
  have B := Lib.hid (bOn B'.out hb)
  have HE := Lib.hid (HE'.out.below hb)
  clear hb HS' HR' B' HE' q8
  go_wp2_with fail
  refine (vErr0 HR.out).mono ?_
  rintro ev w10 ⟨rfl, hb⟩
  have HS' := Lib.hid (HS.out.below hb)
  have HR' := Lib.hid (HR.out.below hb)
  have B' := Lib.hid (bOn B.out hb)
  have HE' := Lib.hid (HE.out.below hb)
  clear hb HS HR B HE
  go_wp2_with fail
  refine (vAt6 3 4 _).mono ?_
  rintro ev w11 ⟨v11, rfl, h11, hb⟩
  have HS := Lib.hid (HS'.out.below hb)
  have HR := Lib.hid (HR'.out.below hb)
  have B := Lib.hid (bOn B'.out hb)
  have HE := Lib.hid (HE'.out.below hb)
  have HU := Lib.hid h11
  clear hb h11 HS' HR' B' HE'
  go_wp2_with fail
  refine (vTells (HG.out.old B.out) HE.out HU.out (by decide)).mono ?_
  rintro ev w12 ⟨rfl, hb⟩
  have HS' := Lib.hid (HS.out.below hb)
  have HR' := Lib.hid (HR.out.below hb)
  have B' := Lib.hid (bOn B.out hb)
  clear hb HS HR B HE HU
  go_wp2_with fail
  refine (vB (m := [7]) (a' := 4) (e' := 0) HR'.out (by decide) (by decide) (by decide)).mono ?_
  rintro ev w13 ⟨v13, rfl, h13, hr, hb⟩
  have q13 := text_of (s := ⟨#[7]⟩) h13 (by decide)
  have HR := Lib.hid hr
  have HS := Lib.hid (HS'.out.but hb (Or.inl (z4 _)))
  have B := Lib.hid (bOnB B'.out hb z1)
  clear hb hr h13 HS' HR' B'
  go_wp2_with fail
  refine (vDone0 HR.out (by decide)).mono ?_
  rintro ev w14 ⟨rfl, hb⟩
  have HS' := Lib.hid (HS.out.below hb)
  have B' := Lib.hid (bOn B.out hb)
  clear hb HS HR B q13
  go_wp2_with fail
  refine (vErr HS'.out (by decide)).mono ?_
  rintro ev w15 ⟨v15, rfl, h15, hb⟩
  have HE := Lib.hid h15
  have B := Lib.hid (bOn B'.out hb)
  clear hb h15 HS' B'
  go_wp2_with fail
  refine (vAt6 0 2 _).mono ?_
  rintro ev w16 ⟨v16, rfl, h16, hb⟩
  have B' := Lib.hid (bOn B.out hb)
  have HE' := Lib.hid (HE.out.below hb)
  have HU := Lib.hid h16
  clear hb h16 B HE
  go_wp2_with fail
  refine (vTells (HG.out.old B'.out) HE'.out HU.out (by decide)).mono ?_
  rintro ev w17 ⟨rfl, hb⟩
  have B := Lib.hid (bOn B'.out hb)
  clear hb B' HE' HU
  go_wp2_with fail
  refine (wsum_any _ [1, 2] _ ⟨_, U8at.lit w17 [1, 2] (by simp) _ rfl⟩ (by intro x hx; simp at hx; omega)).mono ?_
  rintro ev w18 ⟨v18, x18, rfl, h18, -, hb⟩
  have q18 := text_of (s := ⟨#[3, 0, 4, 0]⟩) ⟨x18, h18⟩ (by decide)
  have B' := Lib.hid (bOn B.out (bOn (below_new8 _) hb))
  clear hb h18 B
  go_wp2_with fail
  exact bodyPost_ret (v := .bool true) (by simp [results, Tryd.results8, go_sem]) rfl ⟨rfl, B'.out⟩

end Go.Proofs.YtjicekblfpgkdaaDoor
