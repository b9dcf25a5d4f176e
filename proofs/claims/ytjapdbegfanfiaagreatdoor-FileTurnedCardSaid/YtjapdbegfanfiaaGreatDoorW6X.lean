/-
  The document's Parse, whole.
-/
import Derived.Test.YtjapdbegfanfiaaGreatDoorB14
import Derived.Deep.CutRange
namespace Go.Proofs.YtjapdbegfanfiaaGreatDoor
open Go.RowKit

/-- What Parse tells behind its first tests. -/
def tailF (l : List Int) : NetD × Flt :=
  if (doneR l (rdAs l).2.1 (rdAs l).2.2).2 ≠ 0 then (emptyN, doneR l (rdAs l).2.1 (rdAs l).2.2) else if (chkN (rdN l)).2 ≠ 0 then (emptyN, chkN (rdN l)) else (rdN l, fltOK)
theorem parse_tail {B : List Int} (hl : ¬ 65536 < B.length) (hs : ¬ B.length < 8) (hsum : sumB (B.take (B.length - 4)) = B.drop (B.length - 4)) (hmark : B.take 4 = markL) : parseF B = tailF ((B.take (B.length - 4)).drop 4) := by
  unfold parseF tailF
  rw [if_neg hl, if_neg hs, if_neg (by simpa using hsum), if_neg (by simpa using hmark)]
  obtain ⟨l, el⟩ : ∃ l, (B.take (B.length - 4)).drop 4 = l := ⟨_, rfl⟩
  rw [el]
  by_cases h1 : (rdAs l).2.2 = 0
  · rw [if_neg (by simpa using h1)]
    by_cases h2 : (rdAs l).2.1 < l.length
    · have hD : doneR l (rdAs l).2.1 (rdAs l).2.2 = ([(byteB, ((rdAs l).2.1 : Int))], 4) := by unfold doneR; rw [if_neg (by simpa using h1), if_pos h2]
      rw [if_pos h2, hD, if_pos (by simp)]; rfl
    · have hD : doneR l (rdAs l).2.1 (rdAs l).2.2 = ([], 0) := by unfold doneR; rw [if_neg (by simpa using h1), if_neg h2]
      rw [if_neg h2, hD]
      show _ = if (0 : Int) ≠ 0 then _ else _
      rw [if_neg (show ¬ (0 : Int) ≠ 0 by simp)]
  · have hD : doneR l (rdAs l).2.1 (rdAs l).2.2 = ([(byteB, ((rdAs l).2.1 : Int))], (rdAs l).2.2) := by unfold doneR; rw [if_pos h1]
    rw [if_pos h1, hD, if_pos h1]; rfl
theorem PR.net {w : World} {Bd : Nat} {L : List Int} {v a : List Tri} {t : List Tab} {us : List Value} {pl : Nat} {er : Int} {qv qa qt : Option Addr} {cv ca ct : Nat} {wr : World} (h : PR w Bd L v a t us pl er qv qa qt cv ca ct wr) (hv : v.length ≤ 4096) (ha : a.length ≤ 16384) (ht : t.length ≤ 256) (hc : ∀ x ∈ t, x.2.2.length ≤ 256) :
    NetV wr (.agg #[.slice qv v.length cv, .slice qa a.length ca, .slice qt t.length ct]) ⟨v, a, t⟩ :=
  ⟨_, _, _, rfl, tris_of_owns h.vv (by show v.length ≤ _; omega), tris_of_owns h.aa (by show a.length ≤ _; omega), tabs_of_owns h.tt h.uu (by show t.length ≤ _; omega) (fun x hx => by have := hc x hx; omega)⟩
/-- The net that was read, in a world of its own. -/
structure PN (wr : World) (B0 : Nat) (v : List Tri) (a : List Tri) (t : List Tab) (us : List Value) (qv qa qt : Option Addr) (cv ca ct : Nat) : Prop where
  vv : wr.ownsRow B0 58 3 (.slice qv v.length cv) v.length (flatT v)
  aa : wr.ownsRow B0 60 3 (.slice qa a.length ca) a.length (flatT a)
  tt : wr.ownsRow B0 63 3 (.slice qt t.length ct) t.length (flatB t us)
  uu : RowsI wr t us
  z : 0 < B0
theorem PR.pn {w : World} {Bd : Nat} {L : List Int} {v a : List Tri} {t : List Tab} {us : List Value} {pl : Nat} {er : Int} {qv qa qt : Option Addr} {cv ca ct : Nat} {wr : World} (h : PR w Bd L v a t us pl er qv qa qt cv ca ct wr) : PN wr (Bd + 2) v a t us qv qa qt cv ca ct := ⟨h.vv, h.aa, h.tt, h.uu, by omega⟩
section
variable {wr w' : World} {B0 : Nat} {v a : List Tri} {t : List Tab} {us : List Value} {qv qa qt : Option Addr} {cv ca ct : Nat}
theorem PN.below (h : PN wr B0 v a t us qv qa qt cv ca ct) (hb : Below wr.heap.size wr w') : PN w' B0 v a t us qv qa qt cv ca ct :=
  ⟨own_but h.vv (But.of_below hb) h.z, own_but h.aa (But.of_below hb) h.z, own_but h.tt (But.of_below hb) h.z, h.uu.map fun _ _ hu => hu.below hb, h.z⟩
theorem PN.set (h : PN wr B0 v a t us qv qa qt cv ca ct) {k : Nat} {cs : Array Value} {ty : TypeId} (hk : Blk wr k cs ty) (hty : ty = 37 ∨ ty = 40) (o : Nat) (x : Value) : PN (wr.setCell ⟨k, o, none⟩ x) B0 v a t us qv qa qt cv ca ct := by
  rcases hty with rfl | rfl
  · exact ⟨owns_set h.vv hk (by decide) _ _, owns_set h.aa hk (by decide) _ _, owns_set h.tt hk (by decide) _ _, h.uu.map fun _ _ hu => hu.set hk (by decide) _ _, h.z⟩
  · exact ⟨owns_set h.vv hk (by decide) _ _, owns_set h.aa hk (by decide) _ _, owns_set h.tt hk (by decide) _ _, h.uu.map fun _ _ hu => hu.set hk (by decide) _ _, h.z⟩
theorem PN.net (h : PN wr B0 v a t us qv qa qt cv ca ct) (hv : v.length ≤ 4096) (ha : a.length ≤ 16384) (ht : t.length ≤ 256) (hc : ∀ x ∈ t, x.2.2.length ≤ 256) :
    NetV wr (.agg #[.slice qv v.length cv, .slice qa a.length ca, .slice qt t.length ct]) ⟨v, a, t⟩ :=
  ⟨_, _, _, rfl, tris_of_owns h.vv (by show v.length ≤ _; omega), tris_of_owns h.aa (by show a.length ≤ _; omega), tabs_of_owns h.tt h.uu (by show t.length ≤ _; omega) (fun x hx => by have := hc x hx; omega)⟩
end
theorem fin_ok {w0 w : World} {B0 : Nat} {v a : List Tri} {t : List Tab} {us : List Value} {qv qa qt : Option Addr} {cv ca ct : Nat} {i : Int} {p0 p1 p2 p3 : Option Addr} {n0 n1 n2 n3 c0' c1 c2 c3 : Nat}
    (kn : Blk w w0.heap.size #[.slice p0 n0 c0', .slice p1 n1 c1, .slice p2 n2 c2] 37) (kw : Blk w (w0.heap.size + 1) #[.slice p3 n3 c3, .int .i64 i] 40) (h : PN w B0 v a t us qv qa qt cv ca ct) (hb : Below w0.heap.size w0 w)
    (hv : v.length ≤ 4096) (ha : a.length ≤ 16384) (ht : t.length ≤ 256) (hc : ∀ x ∈ t, x.2.2.length ≤ 256) :
    NetV (((((w.setCell ⟨w0.heap.size, 0, none⟩ (.slice qv v.length cv)).setCell ⟨w0.heap.size, 1, none⟩ (.slice qa a.length ca)).setCell ⟨w0.heap.size, 2, none⟩ (.slice qt t.length ct)).setCell ⟨w0.heap.size + 1, 0, none⟩ (.slice none 0 0)).setCell ⟨w0.heap.size + 1, 1, none⟩ (.int .i64 0)) (.agg #[.slice qv v.length cv, .slice qa a.length ca, .slice qt t.length ct]) ⟨v, a, t⟩ ∧
      WrongV (((((w.setCell ⟨w0.heap.size, 0, none⟩ (.slice qv v.length cv)).setCell ⟨w0.heap.size, 1, none⟩ (.slice qa a.length ca)).setCell ⟨w0.heap.size, 2, none⟩ (.slice qt t.length ct)).setCell ⟨w0.heap.size + 1, 0, none⟩ (.slice none 0 0)).setCell ⟨w0.heap.size + 1, 1, none⟩ (.int .i64 0)) (.agg #[.slice none 0 0, .int .i64 0]) [] 0 ∧
      Below w0.heap.size w0 (((((w.setCell ⟨w0.heap.size, 0, none⟩ (.slice qv v.length cv)).setCell ⟨w0.heap.size, 1, none⟩ (.slice qa a.length ca)).setCell ⟨w0.heap.size, 2, none⟩ (.slice qt t.length ct)).setCell ⟨w0.heap.size + 1, 0, none⟩ (.slice none 0 0)).setCell ⟨w0.heap.size + 1, 1, none⟩ (.int .i64 0)) := by
  have a1 := kn.set 0 (.slice qv v.length cv)
  have a2 := a1.set 1 (.slice qa a.length ca)
  have b1 := kw.other (k := w0.heap.size) 0 (.slice qv v.length cv) (by omega)
  have b2 := b1.other (k := w0.heap.size) 1 (.slice qa a.length ca) (by omega)
  have b3 := b2.other (k := w0.heap.size) 2 (.slice qt t.length ct) (by omega)
  have b4 := b3.set 0 (.slice none 0 0)
  refine ⟨PN.net (((((h.set kn (Or.inl rfl) _ _).set a1 (Or.inl rfl) _ _).set a2 (Or.inl rfl) _ _).set b3 (Or.inr rfl) _ _).set b4 (Or.inr rfl) _ _) hv ha ht hc, ⟨_, rfl, Or.inl ⟨rfl, rfl⟩⟩, ?_⟩
  iterate 5 (refine Below.setCell ?_ (by simp only []; omega) _)
  exact hb

set_option maxRecDepth 100000 in
set_option maxHeartbeats 8000000 in
theorem parse6_main (p0 : Option Addr) (c0 : Nat) (B : List Int) (w : World) (h : U8s w (.slice p0 B.length c0) B) (hin : In8 B) (hl : ¬ 65536 < B.length) (hs : ¬ B.length < 8) (hsum : sumB (B.take (B.length - 4)) = B.drop (B.length - 4)) (hmark : B.take 4 = markL) : Calls Tryz.prog 10 #[.slice p0 B.length c0] w (P6Post (parseF B) w) := by
  rw [parse_tail hl hs hsum hmark]
  have d1 : decide ((65536 : Int) < (B.length : Int)) = false := decide_eq_false (by omega)
  have d2 : decide ((B.length : Int) < 8) = false := decide_eq_false (by omega)
  obtain ⟨L, hL⟩ : ∃ L, (B.take (B.length - 4)).drop 4 = L := ⟨_, rfl⟩
  rw [hL]
  obtain ⟨R, hR⟩ : ∃ R, tailF L = R := ⟨_, rfl⟩
  rw [hR]
  have HRR := Lib.hid hR
  clear hR
  have hL8 : In8 L := by rw [← hL]; exact (hin.take _).drop _
  have hLl : L.length = B.length - 4 - 4 := by rw [← hL, List.length_drop, List.length_take]; omega
  have hLd : (B.drop 4).take (B.length - 4 - 4) = L := by rw [← hL, List.drop_take]
  have HL8 := Lib.hid hL8
  have HLl := Lib.hid hLl
  have HLd := Lib.hid hLd
  have hsm := rdN_small hL8
  have HSM := Lib.hid hsm
  obtain ⟨⟨t0, t1⟩, ⟨v0, v1⟩, ⟨a0, a1⟩⟩ := rdK_in hL8
  obtain ⟨tn, sa1, se1, h1⟩ : ∃ V a e, rdU L 256 (0, 0) = (V, a, e) := ⟨_, _, _, rfl⟩
  obtain ⟨vn, sa2, se2, h2⟩ : ∃ V a e, rdU L 4096 (sa1, se1) = (V, a, e) := ⟨_, _, _, rfl⟩
  obtain ⟨an, sa3, se3, h3⟩ : ∃ V a e, rdU L 16384 (sa2, se2) = (V, a, e) := ⟨_, _, _, rfl⟩
  have hK : rdK L = ((tn, vn, an), (sa3, se3)) := by unfold rdK; simp only [h1, h2, h3]
  rw [hK] at t0 t1 v0 v1 a0 a1
  simp only at t0 t1 v0 v1 a0 a1
  obtain ⟨tN, rfl⟩ := Int.eq_ofNat_of_zero_le t0
  obtain ⟨vN, rfl⟩ := Int.eq_ofNat_of_zero_le v0
  obtain ⟨aN, rfl⟩ := Int.eq_ofNat_of_zero_le a0
  have hu1 : uintR L 0 0 256 = ((tN : Int), sa1, se1) := h1
  have hu2 : uintR L sa1 se1 4096 = ((vN : Int), sa2, se2) := h2
  have hu3 : uintR L sa2 se2 16384 = ((aN : Int), sa3, se3) := h3
  have hwt : IntKind.i64.wrap (tN : Int) = tN := by simp [IntKind.wrap, IntKind.bits, IntKind.signed]; omega
  have hwv : IntKind.i64.wrap (vN : Int) = vN := by simp [IntKind.wrap, IntKind.bits, IntKind.signed]; omega
  have hwa : IntKind.i64.wrap (aN : Int) = aN := by simp [IntKind.wrap, IntKind.bits, IntKind.signed]; omega
  obtain ⟨GT, hGT⟩ : ∃ G, goK erS (rdT L) (sa3, se3) = G := ⟨_, rfl⟩
  have eT : rdTs L = GT tN := by unfold rdTs; rw [hK, ← hGT]; rfl
  obtain ⟨GV, hGV⟩ : ∃ G, goK erV (rdV L) ((0, 0), (GT tN).2) = G := ⟨_, rfl⟩
  have eV : rdVs L = GV vN := by unfold rdVs; rw [hK, eT, ← hGV]; rfl
  obtain ⟨GA, hGA⟩ : ∃ G, goK erS (rdA L) (GV vN).2.2 = G := ⟨_, rfl⟩
  have eA : rdAs L = GA aN := by unfold rdAs; rw [hK, eV, ← hGA]; rfl
  have eN : rdN L = ⟨(GV vN).1, (GA aN).1, (GT tN).1⟩ := by unfold rdN; rw [eT, eV, eA]
  have HGT := Lib.hid hGT
  have HGV := Lib.hid hGV
  have HGA := Lib.hid hGA
  have EA := Lib.hid eA
  have EN := Lib.hid eN
  have HVB : Hid (∀ k : Nat, (-(2097152 * (k : Int)) ≤ (GV k).2.1.1 ∧ (GV k).2.1.1 ≤ 2097152 * (k : Int)) ∧ -(2097152 * (k : Int)) ≤ (GV k).2.1.2 ∧ (GV k).2.1.2 ≤ 2097152 * (k : Int)) := Lib.hid (fun k => by rw [← hGV]; exact (rdV_in hL8 (GT tN).2 k).2)
  clear hL hL8 hLl hLd hsm h1 h2 h3 hK eT eV eA eN hGT hGV hGA
  have HOB := Lib.hid (OldB.of h)
  have hcap : B.length ≤ c0 := HOB.out.cap.2
  clear h
  obtain ⟨M, hM⟩ : ∃ M : Nat, B.length = M + 4 := ⟨B.length - 4, by omega⟩
  have hM4 : B.length - 4 = M := by omega
  have hMi : (B.length : Int) - 4 = (M : Int) := by omega
  have hwM : IntKind.i64.wrap ((B.length : Int) - 4) = (M : Int) := by rw [hMi]; simp [IntKind.wrap, IntKind.bits, IntKind.signed]; omega
  have hMc : M ≤ c0 := by omega
  have hMl : M ≤ B.length := by omega
  have hBc : B.length ≤ c0 := hcap
  obtain ⟨T1, hT1⟩ : ∃ s, strOfNums (sumB (B.take M)) = s := ⟨_, rfl⟩
  obtain ⟨T2, hT2⟩ : ∃ s, strOfNums (B.drop M) = s := ⟨_, rfl⟩
  have K1 := Lib.hid hT1
  have K2 := Lib.hid hT2
  have HTK := Lib.hid (hin.take M)
  have hne : (T1.toList == T2.toList) = true := by
    rw [← hT1, ← hT2, text_inj (sumB_in8 _) (hin.drop M)]
    rw [hM4] at hsum
    exact decide_eq_true hsum
  have HM := Lib.hid hM
  clear hT1 hT2 hMi hM hM4
  obtain ⟨TF, hTF⟩ : ∃ s, strOfNums (B.take 4) = s := ⟨_, rfl⟩
  have K4 := Lib.hid hTF
  have hmk : (TF.toList == ([82, 78, 68, 49] : List UInt8)) = true := by
    have e2 : (⟨#[82, 78, 68, 49]⟩ : ByteArray).toList = [82, 78, 68, 49] := by rw [ByteArray.toList_eq]
    rw [← e2]
    have e : (⟨#[82, 78, 68, 49]⟩ : ByteArray) = strOfNums markL := by decide
    rw [e, ← hTF, text_inj (hin.take 4) (by intro x hx; simp [markL] at hx; omega)]
    exact decide_eq_true hmark
  clear hTF
  go_enter Tryz.func10, Tryz.ntmps10
  go_wp2_with fail
  obtain ⟨W, hW⟩ := named ((w.alloc (.cells #[.slice none 0 0, .slice none 0 0, .slice none 0 0] 37)).alloc (.cells #[.slice none 0 0, .int .i64 0] 40))
  rw [← hW]
  have BW : Hid (Below w.heap.size w W) := by rw [hW]; exact Lib.hid ((below_new8 _).trans (below_new8 _ |>.mono (by simp)))
  have KN : Hid (Blk W w.heap.size #[.slice none 0 0, .slice none 0 0, .slice none 0 0] 37) := by rw [hW]; exact Lib.hid ((Blk.new _ _ _ _ rfl).old _)
  have KW : Hid (Blk W (w.heap.size + 1) #[.slice none 0 0, .int .i64 0] 40) := by rw [hW]; exact Lib.hid (Blk.new _ _ _ _ (by simp))
  clear hW
  go_wp2_with fail
  have hGS : Grows (fun w' => Below W.heap.size W w') := Grows.below W
  refine' wp_growL _ (fun w' => Below W.heap.size W w') [[], [], [1], [2], [0, 3], [4], [5], [], [], [8], [9], [7, 10], [11], [6, 12], [13]] (Fact.lit _ :: Fact.lit _ :: Fact.lit _ :: Fact.lit _ :: Fact.lit _ :: Fact.prop _ _ :: Fact.lit _ :: Fact.lit _ :: Fact.lit _ :: Fact.lit _ :: Fact.lit _ :: Fact.lit _ :: Fact.lit _ :: Fact.lit _ :: Fact.lit _ :: []) (by kernel_rfl) rfl (by kernel_rfl) (Below.refl _ _).drew ?seqsm
  case' seqsm => skip
  iterate 4 ((first | (apply grow_skip; (case hf => rfl); (case hw => rfl)) | (apply grow_lit; (case hf => rfl); (case hw => rfl); (case hrun => (intro w' hS H; clear H; clear hS; go_simp; first | done | exact rfl)))); (case hc => (simp only [Act.put, List.setIfInBounds_toArray, List.set_cons_zero, List.set_cons_succ]; first | done | exact rfl)); (try (case hj => rfl)))
  (refine' grow_lit rfl ?wtL5 ?runL5 ?putL5 ?nextL5; (case wtL5 => rfl); (case runL5 => (intro w' hS H; clear H hS; go_simp; first | done | exact rfl)); (case putL5 => (simp only [Act.put, List.setIfInBounds_toArray, List.set_cons_zero, List.set_cons_succ]; first | done | exact rfl)); (case' nextL5 => skip))
  (refine' grow_callP (p := fun v w => U8s w v (sumB (B.take M))) (hp := fun v w w' h hb => U8s.below h hb) rfl Tryz.func20 (by kernel_rfl) rfl hGS rfl ?wt13 ?run13 ?put13 ?next13; (case wt13 => rfl); (case run13 => (intro w' hS H; exact (rsum8_any _ (B.take M) w' ((HOB.out.keep (BW.out.trans (hS.mono BW.out.size))).take M hMl) HTK.out).mono (fun e w2 ⟨v, z, h1, h2, h3, h4⟩ => ⟨v, h1, ⟨z, h2⟩, h4⟩))); (case put13 => (intro v; simp only [Act.put, List.setIfInBounds_toArray, List.set_cons_zero, List.set_cons_succ]; first | done | exact rfl)); (case' next13 => intro v5))
  (refine' grow_lit rfl ?wtL6 ?runL6 ?putL6 ?nextL6; (case wtL6 => rfl); (case runL6 => (intro w' hS H; (have h3 : U8s w' v5 (sumB (B.take M)) := H 5 (by decide)); (have q := text_of h3 K1.out); clear H hS; go_simp; first | done | exact rfl)); (case putL6 => (simp only [Act.put, List.setIfInBounds_toArray, List.set_cons_zero, List.set_cons_succ]; first | done | exact rfl)); (case' nextL6 => skip))
  iterate 4 ((first | (apply grow_skip; (case hf => rfl); (case hw => rfl)) | (apply grow_lit; (case hf => rfl); (case hw => rfl); (case hrun => (intro w' hS H; clear H; clear hS; go_simp; first | done | exact rfl)))); (case hc => (simp only [Act.put, List.setIfInBounds_toArray, List.set_cons_zero, List.set_cons_succ]; first | done | exact rfl)); (try (case hj => rfl)))
  (refine' grow_lit rfl ?wtL7 ?runL7 ?putL7 ?nextL7; (case wtL7 => rfl); (case runL7 => (intro w' hS H; clear H hS; go_simp; exact sl_part (p := p0) (c := c0) (a := M) (n := 4) (x := B.length - M) (y := c0 - M) (z := M) (by have := HM.out; omega) rfl rfl)); (case putL7 => (simp only [Act.put, List.setIfInBounds_toArray, List.set_cons_zero, List.set_cons_succ]; first | done | exact rfl)); (case' nextL7 => skip))
  (refine' grow_lit rfl ?wtL8 ?runL8 ?putL8 ?nextL8; (case wtL8 => rfl); (case runL8 => (intro w' hS H; (have q := text_of (v := .slice (moved p0 c0 M) 4 (c0 - M)) (l := B.drop M) (by have h5 := ((HOB.out.keep (BW.out.trans (hS.mono BW.out.size)))).part M 4 (by have := HM.out; omega); rwa [List.take_of_length_le (by have := HM.out; rw [List.length_drop]; omega)] at h5) K2.out); clear H hS; go_simp; first | done | exact rfl)); (case putL8 => (simp only [Act.put, List.setIfInBounds_toArray, List.set_cons_zero, List.set_cons_succ]; first | done | exact rfl)); (case' nextL8 => skip))
  iterate 2 ((first | (apply grow_skip; (case hf => rfl); (case hw => rfl)) | (apply grow_lit; (case hf => rfl); (case hw => rfl); (case hrun => (intro w' hS H; clear H; clear hS; go_simp; first | done | exact rfl)))); (case hc => (simp only [Act.put, List.setIfInBounds_toArray, List.set_cons_zero, List.set_cons_succ]; first | done | exact rfl)); (try (case hj => rfl)))
  intro w1 hb _
  have B1 := Lib.hid (BW.out.trans (hb.mono BW.out.size))
  have KN1 := Lib.hid (KN.out.keep hb)
  have KW1 := Lib.hid (KW.out.keep hb)
  clear hb hGS KN KW BW K1 K2 HTK hne hwM
  have KN := KN1
  have KW := KW1
  have q7 := text_of (v := .slice p0 4 c0) (l := B.take 4) ((HOB.out.keep B1.out).take 4 (by omega)) K4.out
  have hc4 : 4 ≤ c0 := by omega
  go_wp2_with fail
  obtain ⟨W2, hW2⟩ := named ((w1.alloc (.cells #[.slice (Option.map (fun x : Addr => ({ block := x.block, off := x.off + 4 } : Addr)) p0) (B.length - 4 - 4) (c0 - 4), .int .i64 0, .slice none 0 0, .int .i64 0] 74)).alloc (.cells #[.slice none 0 0, .slice none 0 0, .slice none 0 0] 37))
  have hWW : Below w1.heap.size w1 W2 := by rw [hW2]; exact (below_new8 _).trans (below_new8 _ |>.mono (by simp))
  obtain ⟨Bd, hBd⟩ : ∃ Bd, w1.heap.size = Bd := ⟨_, rfl⟩
  have hkr : Blk W2 Bd #[.slice (moved p0 c0 4) L.length (c0 - 4), .int .i64 (0 : Nat), .slice none 0 0, .int .i64 0] 74 := by
    rw [hW2, show moved p0 c0 4 = Option.map (fun x => x.add 4) p0 from if_neg (by omega), HLl.out]
    exact (Blk.new _ _ _ _ hBd).old _
  have hkn : Blk W2 (Bd + 1) #[.slice none 0 0, .slice none 0 0, .slice none 0 0] 37 := by rw [hW2]; exact Blk.new _ _ _ _ (by simp [hBd])
  have hz1 := KW.out.lt
  have hPR0 : PR w Bd L [] [] [] [] 0 0 none none none 0 0 0 W2 := by
    refine ⟨⟨_, _, ⟨.slice none 0 0, hkr, Or.inl ⟨rfl, rfl⟩⟩, ?_, HL8.out, Nat.zero_le _, by have := HLl.out; omega, by omega⟩, hkn, World.ownsRow_nil _ _ _ _, World.ownsRow_nil _ _ _ _, World.ownsRow_nil _ _ _ _, ⟨rfl, fun i t u h => by simp at h⟩, KN.out.keep hWW, KW.out.keep hWW, B1.out.trans (hWW.mono B1.out.size), by omega, hkn.lt⟩
    have := ((HOB.out.keep B1.out).below hWW).partO 4 (B.length - 4 - 4) (by omega)
    rw [HLd.out] at this
    rw [HLl.out]
    exact this
  have P0 := Lib.hid hPR0
  clear hkr hkn hPR0 hWW hz1 q7 K4 hmk B1
  rw [← hW2, hBd]
  clear hW2 hBd
  refine (v6U P0.out.rr hu1).mono ?_
  rintro ev w3 ⟨rfl, hr, hb⟩
  have P1 := Lib.hid (P0.out.read hr hb)
  clear hr hb P0
  go_wp2_with fail
  refine (v6U P1.out.rr hu2).mono ?_
  rintro ev w4 ⟨rfl, hr, hb⟩
  have P2 := Lib.hid (P1.out.read hr hb)
  clear hr hb P1
  go_wp2_with fail
  refine (v6U P2.out.rr hu3).mono ?_
  rintro ev w5 ⟨rfl, hr, hb⟩
  have P3 := Lib.hid (P2.out.read hr hb)
  clear hr hb P2 hu1 hu2 hu3
  go_wp2_with fail
  go_loopw [9] (fun i wr => ∃ (k : Nat) (us : List Value) (qt : Option Addr) (ct : Nat), k ≤ tN ∧ i = .int .i64 k ∧ Hid (PR w Bd L [] [] (GT k).1 us (GT k).2.1 (GT k).2.2 none none qt 0 0 ct wr) ∧ (GT k).1.length ≤ k) (fun i _ => tN - (intOf i).toNat)
  case atStart => exact ⟨0, [], none, 0, Nat.zero_le _, rfl, by rw [← HGT.out]; exact P3, by rw [← HGT.out]; exact Nat.zero_le _⟩
  case round =>
    clear P3
    obtain ⟨k, us, qt, ct, hk, rfl, PP, hlen⟩ := hrel
    obtain ⟨Gl, Ga, Ge, hGk⟩ : ∃ Gl Ga Ge, GT k = (Gl, Ga, Ge) := ⟨_, _, _, rfl⟩
    rw [hGk] at PP hlen
    simp only at PP hlen
    obtain ⟨q', c', pv', hkr⟩ := PP.out.rr.cells
    obtain ⟨c1, c2, c3, c4, -, -, -, -⟩ := hkr.o4
    clear hkr
    by_cases hgo : k < tN ∧ Ge = 0
    · obtain ⟨hlt, rfl⟩ := hgo
      have hki : (k : Int) < tN := by omega
      obtain ⟨X, na, ne, hC⟩ : ∃ X na ne, rdT L (Ga, 0) = (X, na, ne) := ⟨_, _, _, rfl⟩
      have HRC := Lib.hid hC
      have hGs : GT (k + 1) = (Gl ++ [X], na, ne) := by
        have h1 := HGT.out
        have h2 : goK erS (rdT L) (sa3, se3) k = (Gl, Ga, 0) := by rw [h1, hGk]
        rw [← h1, goK_step (by rw [h2]; rfl), h2]
        simp only [hC]
      have HGS := Lib.hid hGs
      clear hC hGs hGk
      go_wp2_with fail
      clear c1 c2 c3 c4
      have HNB : Hid (∀ w', (∃ cc : Bool, (cc = false → PR w Bd L [] [] Gl us Ga 0 none none qt 0 0 ct w') ∧ (cc = true → PR w Bd L [] [] Gl us na ne none none qt 0 0 ct w')) → w'.cell? ⟨Bd + 1, 0, none⟩ = some (.slice none ([] : List Tri).length 0) ∧ w'.cell? ⟨Bd + 1, 1, none⟩ = some (.slice none ([] : List Tri).length 0) ∧ w'.cell? ⟨Bd + 1, 2, none⟩ = some (.slice qt Gl.length ct)) := by
        refine Lib.hid fun w' ⟨cc, hS⟩ => ?_
        cases cc
        · obtain ⟨d0, d1, d2, -⟩ := (hS.1 rfl).nn.o3; exact ⟨d0, d1, d2⟩
        · obtain ⟨d0, d1, d2, -⟩ := (hS.2 rfl).nn.o3; exact ⟨d0, d1, d2⟩
      have hGS : GB.Grows (fun (cc : Bool) w' => (cc = false → PR w Bd L [] [] Gl us Ga 0 none none qt 0 0 ct w') ∧ (cc = true → PR w Bd L [] [] Gl us na ne none none qt 0 0 ct w')) := fun cc w1 w2 h hb => ⟨fun h0 => (h.1 h0).below hb, fun h0 => (h.2 h0).below hb⟩
      refine' GB.wp_thenL (β := Bd) _ 5 (fun (cc : Bool) w' => (cc = false → PR w Bd L [] [] Gl us Ga 0 none none qt 0 0 ct w') ∧ (cc = true → PR w Bd L [] [] Gl us na ne none none qt 0 0 ct w')) 3 [[], [0], [], [2], [2, 3]] (GB.Fact.lit _ :: GB.Fact.lit _ :: GB.Fact.lit _ :: GB.Fact.prop _ _ :: GB.Fact.prop _ _ :: []) (by kernel_rfl) rfl (by kernel_rfl) ⟨fun _ => PP.out.below (Below.refl _ _).drew, fun h0 => by cases h0⟩ ?seqr17
      case' seqr17 => skip
      iterate 3 ((first | (apply GB.grow_skip; (case hf => rfl); (case hw => rfl)) | (apply GB.grow_lit; (case hf => rfl); (case hw => rfl); (case hrun => (intro w' hS H; clear H; (obtain ⟨d0, d1, d2⟩ := HNB.out w' hS); clear hS; go_simp; first | done | exact rfl)))); (case hc => (simp only [Act.put, List.setIfInBounds_toArray, List.set_cons_zero, List.set_cons_succ]; first | done | exact rfl)); (try (case hj => rfl)))
      (refine' GB.grow_callJP (p := fun v w => TabOwn (Bd + 2) w v X) (hp := fun v w w' h hb => TabOwn.but h hb (by omega)) rfl Tryz.func29 (by kernel_rfl) rfl rfl ?wtct ?runct ?putct ?nextct; (case wtct => rfl); (case runct => (intro w' hS H; exact (GB.table6 (hS.1 rfl).rr X na ne HRC.out).mono (fun ev w2 ⟨v, h1, h2, h3, h4⟩ => ⟨v, h1, h2.low (hS.1 rfl).z1, ⟨(fun h0 => by cases h0), (fun _ => (hS.1 rfl).read h3 h4)⟩, h4⟩))); (case putct => (intro v; (simp only [Act.put, List.setIfInBounds_toArray, List.set_cons_zero, List.set_cons_succ]; first | done | exact rfl))); (case' nextct => intro v3))
      (refine' GB.grow_make (p := LitRB Bd (Bd + 2) X) (hp := fun v w w' h hb => LitRB.but (by omega) h hb) hGS rfl ?wtmt ?runmt ?putmt ?nextmt; (case wtmt => rfl); (case runmt => (intro w' hS H; (have hsz : Bd + 1 < w'.heap.size := by obtain ⟨cc, hS⟩ := hS; cases cc; exact (hS.1 rfl).z1; exact (hS.2 rfl).z1); (have h3 : TabOwn (Bd + 2) w' v3 X := H 3 (by decide)); (obtain ⟨u3, rfl, hu3⟩ := h3); (obtain ⟨uq, uc, rfl⟩ := own_shape hu3); clear H hS; refine ⟨.slice (some ⟨w'.heap.size, 0, none⟩) 1 1, w'.alloc (.cells #[.int .i64 X.1, .int .i64 X.2.1, .slice uq X.2.2.length uc] 63), ?_, ⟨w'.heap.size, _, rfl, (by omega), Blk.new _ _ _ _ rfl, own_but hu3 (But.of_below (below_new8 _)) (show Bd < Bd + 2 by omega)⟩, below_new8 _⟩; clear hu3 hsz; go_simp; first | done | exact rfl)); (case putmt => (intro v; (simp only [Act.put, List.setIfInBounds_toArray, List.set_cons_zero, List.set_cons_succ]; first | done | exact rfl))); (case' nextmt => intro v4))
      intro cc w9 hS hcc hk9
      obtain rfl : cc = true := hcc (by decide)
      obtain ⟨q2, c2, w', us', hrun, ⟨cs, rfl, hn⟩, hP⟩ := (hS.2 rfl).addT (x := X) (lv := v4) (hk9 4 (by decide)) (by omega)
      have HRUN := Lib.hid hrun
      have PN := Lib.hid hP
      obtain ⟨d0, d1, d2, f0, f1, f2⟩ := hn.o3
      clear hS hk9 hcc hrun hP hn hGS PP HNB
      refine wpAny_ready (rs := [5]) (by kernel_rfl) (by simp) (AllReady.cons rfl (fun K hK => ?_) AllReady.nil)
      refine step_append_run rfl _ _ 35 rfl _ _ _ rfl rfl HRUN.out ?_
      refine hK _ _ ?_
      clear hK K
      refine wpAny_ready (rs := [6]) (by kernel_rfl) (by simp) (AllReady.cons rfl (fun K hK => ?_) AllReady.nil)
      go_simp
      refine hK _ _ ?_
      clear hK K
      refine wpAny_ready (rs := [7]) (by kernel_rfl) (by simp) (AllReady.cons rfl (fun K hK => ?_) AllReady.nil)
      go_simp
      refine hK _ _ ?_
      clear hK K
      refine wpAny_done (by kernel_rfl) ?_ _
      clear d0 d1 d2 f0 f1 f2
      go_wp2_with fail
      go_roundw
      case rel => exact ⟨k + 1, us', q2, c2, by omega, by go_num, by rw [HGS.out]; exact PN, by rw [HGS.out, List.length_append]; show Gl.length + 1 ≤ k + 1; omega⟩
      case measure => simp [intOf]; omega
    · have hfin : GT tN = (Gl, Ga, Ge) := by
        by_cases h1 : k < tN
        · have h2 : ¬ Ge = 0 := fun h => hgo ⟨h1, h⟩
          have := goK_stop (er := erS) (f := rdT L) (s := (sa3, se3)) (k := k) (by rw [HGT.out, hGk]; exact h2) (tN - k)
          rw [HGT.out, show k + (tN - k) = tN by omega, hGk] at this
          exact this
        · rw [show tN = k by omega, hGk]
      have hw : (¬ k < tN ∧ decide (k < tN) = false) ∨ (k < tN ∧ decide (k < tN) = true ∧ (Ge == 0) = false) := by
        by_cases h1 : k < tN
        · exact Or.inr ⟨h1, decide_eq_true h1, beq_eq_false_iff_ne.2 fun h => hgo ⟨h1, h⟩⟩
        · exact Or.inl ⟨h1, decide_eq_false h1⟩
      have HFT := Lib.hid hfin
      have hlT : Gl.length ≤ 256 := by omega
      clear hgo hGk hfin hlen
      go_upto_region 15 with fail
      go_cut [79] from 69 to 88 (fun c wx => c = .bool false ∧ wx = wr)
      case first =>
        rcases hw with ⟨g1, g2⟩ | ⟨g1, g2, g3⟩
        all_goals
          go_wp2_with fail
          go_meet
          exact ⟨rfl, rfl⟩
      case rest =>
        obtain ⟨rfl, rfl⟩ := hcut
        clear hw c1 c2 c3 c4
        obtain ⟨Tl, eT⟩ : ∃ T, Gl = T := ⟨_, rfl⟩
        subst eT
        go_wp2_with fail
        have Q0 : Hid (PR w Bd L (GV 0).1 [] Gl us (GV 0).2.2.1 (GV 0).2.2.2 none none qt 0 0 ct wc) := by
          rw [← HGV.out]
          show Hid (PR w Bd L [] [] Gl us (GT tN).2.1 (GT tN).2.2 none none qt 0 0 ct wc)
          rw [HFT.out]
          exact PP
        have E0 : (GV 0).2.1.1 = 0 ∧ (GV 0).2.1.2 = 0 ∧ (GV 0).1 = [] := by rw [← HGV.out]; exact ⟨rfl, rfl, rfl⟩
        have HQ := Lib.hid E0
        clear PP E0
        go_loopw [10, 11, 12] (fun xv yv i wr => ∃ (k : Nat) (qv : Option Addr) (cv : Nat), k ≤ vN ∧ i = .int .i64 k ∧ xv = .int .i64 (GV k).2.1.1 ∧ yv = .int .i64 (GV k).2.1.2 ∧ Hid (PR w Bd L (GV k).1 [] Gl us (GV k).2.2.1 (GV k).2.2.2 qv none qt cv 0 ct wr) ∧ (GV k).1.length ≤ k) (fun _ _ i _ => vN - (intOf i).toNat)
        case atStart => exact ⟨0, none, 0, Nat.zero_le _, rfl, by rw [HQ.out.1], by rw [HQ.out.2.1], Q0, by rw [HQ.out.2.2]; exact Nat.zero_le _⟩
        case round =>
          clear Q0 HQ
          obtain ⟨k, qv, cv, hk, rfl, rfl, rfl, PP, hlen⟩ := hrel
          have hB := HVB.out k
          obtain ⟨Vl, gx, gy, Ga, Ge, hGk⟩ : ∃ Vl gx gy Ga Ge, GV k = (Vl, (gx, gy), Ga, Ge) := ⟨_, _, _, _, _, rfl⟩
          rw [hGk] at PP hlen hB
          simp only at PP hlen hB
          obtain ⟨q', c', pv', hkr⟩ := PP.out.rr.cells
          obtain ⟨c1, c2, c3, c4, -, -, -, -⟩ := hkr.o4
          clear hkr
          rw [hGk]
          by_cases hgo : k < vN ∧ Ge = 0
          · obtain ⟨hlt, rfl⟩ := hgo
            have hki : (k : Int) < vN := by omega
            obtain ⟨dx, xa, xe, e1⟩ : ∃ V a e, rdI L 2097152 (Ga, 0) = (V, a, e) := ⟨_, _, _, rfl⟩
            obtain ⟨dy, ya, ye, e2⟩ : ∃ V a e, rdI L 2097152 (xa, xe) = (V, a, e) := ⟨_, _, _, rfl⟩
            obtain ⟨ty, na, ne, e3⟩ : ∃ V a e, rdU L 16384 (ya, ye) = (V, a, e) := ⟨_, _, _, rfl⟩
            have b1 := rdI_in HL8.out 2097152 (Ga, 0) (by omega)
            have b2 := rdI_in HL8.out 2097152 (xa, xe) (by omega)
            have b3 := rdU_in HL8.out 16384 (ya, ye) (by omega)
            rw [e1] at b1
            rw [e2] at b2
            rw [e3] at b3
            simp only at b1 b2 b3
            have hC : rdV L ((gx, gy), (Ga, 0)) = ((gx + dx, gy + dy, ty), ((gx + dx, gy + dy), (na, ne))) := by
              unfold rdV
              simp only [e1, e2, e3]
            have hGs : GV (k + 1) = (Vl ++ [(gx + dx, gy + dy, ty)], (gx + dx, gy + dy), na, ne) := by
              have h1 := HGV.out
              have h2 : goK erV (rdV L) ((0, 0), (GT tN).2) k = (Vl, (gx, gy), Ga, 0) := by rw [h1, hGk]
              rw [← h1, goK_step (by rw [h2]; rfl), h2, hC]
            have HGS := Lib.hid hGs
            have hu1 : intR L Ga 0 2097152 = (dx, xa, xe) := e1
            have hu2 : intR L xa xe 2097152 = (dy, ya, ye) := e2
            have hu3 : uintR L ya ye 16384 = (ty, na, ne) := e3
            have HU3 := Lib.hid hu3
            have hbx : -9223372036854775808 ≤ gx + dx ∧ gx + dx ≤ 9223372036854775807 := by omega
            have hby : -9223372036854775808 ≤ gy + dy ∧ gy + dy ≤ 9223372036854775807 := by omega
            have hwt' : IntKind.i64.wrap ty = ty := by simp [IntKind.wrap, IntKind.bits, IntKind.signed]; omega
            obtain ⟨X, hX⟩ : ∃ X, gx + dx = X := ⟨_, rfl⟩
            obtain ⟨Y, hY⟩ : ∃ Y, gy + dy = Y := ⟨_, rfl⟩
            rw [hX, hY] at HGS
            have HXX := Lib.hid hX
            have HYY := Lib.hid hY
            clear hC hGs hGk e1 e2 e3 b1 b2 b3 hB hu3 hX hY
            go_wp2_with fail
            refine (v6I PP.out.rr hu1).mono ?_
            rintro ev w6 ⟨rfl, hr, hb⟩
            have P1 := Lib.hid (PP.out.read hr hb)
            clear hr hb PP c1 c2 c3 c4
            go_wp2_with fail
            refine (v6I P1.out.rr hu2).mono ?_
            rintro ev w7 ⟨rfl, hr, hb⟩
            have PP := Lib.hid (P1.out.read hr hb)
            clear hr hb P1 hu1 hu2
            go_wp2_with fail
            rw [HXX.out, HYY.out]
            clear hbx hby
            have HNB : Hid (∀ w', (∃ cc : Bool, (cc = false → PR w Bd L Vl [] Gl us ya ye qv none qt cv 0 ct w') ∧ (cc = true → PR w Bd L Vl [] Gl us na ne qv none qt cv 0 ct w')) → w'.cell? ⟨Bd + 1, 0, none⟩ = some (.slice qv Vl.length cv) ∧ w'.cell? ⟨Bd + 1, 1, none⟩ = some (.slice none ([] : List Tri).length 0) ∧ w'.cell? ⟨Bd + 1, 2, none⟩ = some (.slice qt Gl.length ct)) := by
              refine Lib.hid fun w' ⟨cc, hS⟩ => ?_
              cases cc
              · obtain ⟨d0, d1, d2, -⟩ := (hS.1 rfl).nn.o3; exact ⟨d0, d1, d2⟩
              · obtain ⟨d0, d1, d2, -⟩ := (hS.2 rfl).nn.o3; exact ⟨d0, d1, d2⟩
            have hGS : GB.Grows (fun (cc : Bool) w' => (cc = false → PR w Bd L Vl [] Gl us ya ye qv none qt cv 0 ct w') ∧ (cc = true → PR w Bd L Vl [] Gl us na ne qv none qt cv 0 ct w')) := fun cc w1 w2 h hb => ⟨fun h0 => (h.1 h0).below hb, fun h0 => (h.2 h0).below hb⟩
            refine' GB.wp_thenL (β := Bd) _ 9 (fun (cc : Bool) w' => (cc = false → PR w Bd L Vl [] Gl us ya ye qv none qt cv 0 ct w') ∧ (cc = true → PR w Bd L Vl [] Gl us na ne qv none qt cv 0 ct w')) 5 [[], [0], [], [], [], [4], [4, 5], [2, 3, 4, 5, 6], [2, 3, 4, 5, 6, 7]] (GB.Fact.lit _ :: GB.Fact.lit _ :: GB.Fact.lit _ :: GB.Fact.lit _ :: GB.Fact.lit _ :: GB.Fact.lit _ :: GB.Fact.lit _ :: GB.Fact.lit _ :: GB.Fact.prop _ _ :: []) (by kernel_rfl) rfl (by kernel_rfl) ⟨fun _ => PP.out.below (Below.refl _ _).drew, fun h0 => by cases h0⟩ ?seqr25
            case' seqr25 => skip
            iterate 5 ((first | (apply GB.grow_skip; (case hf => rfl); (case hw => rfl)) | (apply GB.grow_lit; (case hf => rfl); (case hw => rfl); (case hrun => (intro w' hS H; clear H; (obtain ⟨d0, d1, d2⟩ := HNB.out w' hS); clear hS; go_simp; first | done | exact rfl)))); (case hc => (simp only [Act.put, List.setIfInBounds_toArray, List.set_cons_zero, List.set_cons_succ]; first | done | exact rfl)); (try (case hj => rfl)))
            (refine' GB.grow_callJ (u := .int .u64 ty) rfl Tryz.func28 (by kernel_rfl) rfl rfl ?wtcv ?runcv ?putcv ?nextcv; (case wtcv => rfl); (case runcv => (intro w' hS H; exact (v6U (hS.1 rfl).rr HU3.out).mono (fun ev w2 ⟨h1, h3, h4⟩ => ⟨h1, ⟨(fun h0 => by cases h0), (fun _ => (hS.1 rfl).read h3 h4)⟩, h4⟩))); (case putcv => (simp only [Act.put, List.setIfInBounds_toArray, List.set_cons_zero, List.set_cons_succ]; first | done | exact rfl)); (case' nextcv => skip))
            iterate 2 ((first | (apply GB.grow_skip; (case hf => rfl); (case hw => rfl)) | (apply GB.grow_lit; (case hf => rfl); (case hw => rfl); (case hrun => (intro w' hS H; clear H; (obtain ⟨d0, d1, d2⟩ := HNB.out w' hS); clear hS; go_simp; first | done | exact rfl)))); (case hc => (simp only [Act.put, List.setIfInBounds_toArray, List.set_cons_zero, List.set_cons_succ]; first | done | exact rfl)); (try (case hj => rfl)))
            (refine' GB.grow_make (p := LitTB Bd 58 (X, Y, ty)) (hp := fun v w w' h hb => LitTB.but h hb) hGS rfl ?wtmv ?runmv ?putmv ?nextmv; (case wtmv => rfl); (case runmv => (intro w' hS H; (have hsz : Bd + 1 < w'.heap.size := by obtain ⟨cc, hS⟩ := hS; cases cc; exact (hS.1 rfl).z1; exact (hS.2 rfl).z1); clear H hS; refine ⟨.slice (some ⟨w'.heap.size, 0, none⟩) 1 1, w'.alloc (.cells #[.int .i64 X, .int .i64 Y, .int .i64 ty] 58), ?_, ⟨w'.heap.size, rfl, (by omega), Blk.new _ _ _ _ rfl⟩, below_new8 _⟩; clear hsz; go_simp; first | done | exact rfl)); (case putmv => (intro v; (simp only [Act.put, List.setIfInBounds_toArray, List.set_cons_zero, List.set_cons_succ]; first | done | exact rfl))); (case' nextmv => intro v8))
            intro cc w9 hS hcc hk9
            obtain rfl : cc = true := hcc (by decide)
            obtain ⟨q2, c2', w', hrun, ⟨cs, rfl, hn⟩, hP⟩ := (hS.2 rfl).addV (x := (X, Y, ty)) (lv := v8) (hk9 8 (by decide)) (by omega)
            have HRUN := Lib.hid hrun
            have PN := Lib.hid hP
            obtain ⟨d0, d1, d2, f0, f1, f2⟩ := hn.o3
            clear hS hk9 hcc hrun hP hn hGS PP HNB
            refine wpAny_ready (rs := [9]) (by kernel_rfl) (by simp) (AllReady.cons rfl (fun K hK => ?_) AllReady.nil)
            refine step_append_run rfl _ _ 33 rfl _ _ _ rfl rfl HRUN.out ?_
            refine hK _ _ ?_
            clear hK K
            refine wpAny_ready (rs := [10]) (by kernel_rfl) (by simp) (AllReady.cons rfl (fun K hK => ?_) AllReady.nil)
            go_simp
            refine hK _ _ ?_
            clear hK K
            refine wpAny_ready (rs := [11]) (by kernel_rfl) (by simp) (AllReady.cons rfl (fun K hK => ?_) AllReady.nil)
            go_simp
            refine hK _ _ ?_
            clear hK K
            refine wpAny_done (by kernel_rfl) ?_ _
            clear d0 d1 d2 f0 f1 f2
            go_wp2_with fail
            go_roundw
            case rel => exact ⟨k + 1, q2, c2', by omega, by go_num, by rw [HGS.out], by rw [HGS.out], by rw [HGS.out]; exact PN, by rw [HGS.out, List.length_append]; show Vl.length + 1 ≤ k + 1; omega⟩
            case measure => simp [intOf]; omega
          · have hfin : GV vN = (Vl, (gx, gy), Ga, Ge) := by
              by_cases h1 : k < vN
              · have h2 : ¬ Ge = 0 := fun h => hgo ⟨h1, h⟩
                have := goK_stop (er := erV) (f := rdV L) (s := ((0, 0), (GT tN).2)) (k := k) (by rw [HGV.out, hGk]; exact h2) (vN - k)
                rw [HGV.out, show k + (vN - k) = vN by omega, hGk] at this
                exact this
              · rw [show vN = k by omega, hGk]
            have hw : (¬ k < vN ∧ decide (k < vN) = false) ∨ (k < vN ∧ decide (k < vN) = true ∧ (Ge == 0) = false) := by
              by_cases h1 : k < vN
              · exact Or.inr ⟨h1, decide_eq_true h1, beq_eq_false_iff_ne.2 fun h => hgo ⟨h1, h⟩⟩
              · exact Or.inl ⟨h1, decide_eq_false h1⟩
            have HFV := Lib.hid hfin
            have hlV : Vl.length ≤ 4096 := by omega
            clear hgo hGk hfin hlen hB
            go_upto_region 21 with fail
            go_cut [99] from 89 to 120 (fun c wx => c = .bool false ∧ wx = wr)
            case first =>
              rcases hw with ⟨g1, g2⟩ | ⟨g1, g2, g3⟩
              all_goals
                go_wp2_with fail
                go_meet
                exact ⟨rfl, rfl⟩
            case rest =>
              obtain ⟨rfl, rfl⟩ := hcut
              clear hw c1 c2 c3 c4
              go_wp2_with fail
              have Q0 : Hid (PR w Bd L Vl (GA 0).1 Gl us (GA 0).2.1 (GA 0).2.2 qv none qt cv 0 ct wc) := by
                rw [← HGA.out]
                show Hid (PR w Bd L Vl [] Gl us (GV vN).2.2.1 (GV vN).2.2.2 qv none qt cv 0 ct wc)
                rw [HFV.out]
                exact PP
              have E0 : (GA 0).1 = [] := by rw [← HGA.out]; rfl
              have HQ := Lib.hid E0
              clear PP E0
              go_loopw [13] (fun i wr => ∃ (k : Nat) (qa : Option Addr) (ca : Nat), k ≤ aN ∧ i = .int .i64 k ∧ Hid (PR w Bd L Vl (GA k).1 Gl us (GA k).2.1 (GA k).2.2 qv qa qt cv ca ct wr) ∧ (GA k).1.length ≤ k) (fun i _ => aN - (intOf i).toNat)
              case atStart => exact ⟨0, none, 0, Nat.zero_le _, rfl, Q0, by rw [HQ.out]; exact Nat.zero_le _⟩
              case round =>
                clear Q0 HQ
                obtain ⟨k, qa, ca, hk, rfl, PP, hlen⟩ := hrel
                obtain ⟨Al, Ga, Ge, hGk⟩ : ∃ Al Ga Ge, GA k = (Al, Ga, Ge) := ⟨_, _, _, rfl⟩
                rw [hGk] at PP hlen
                simp only at PP hlen
                obtain ⟨q', c', pv', hkr⟩ := PP.out.rr.cells
                obtain ⟨c1, c2, c3, c4, -, -, -, -⟩ := hkr.o4
                clear hkr
                by_cases hgo : k < aN ∧ Ge = 0
                · obtain ⟨hlt, rfl⟩ := hgo
                  have hki : (k : Int) < aN := by omega
                  obtain ⟨fr, xa, xe, e1⟩ : ∃ V a e, rdU L 16384 (Ga, 0) = (V, a, e) := ⟨_, _, _, rfl⟩
                  obtain ⟨tt, ya, ye, e2⟩ : ∃ V a e, rdU L 16384 (xa, xe) = (V, a, e) := ⟨_, _, _, rfl⟩
                  obtain ⟨cw, na, ne, e3⟩ : ∃ V a e, rdC L (ya, ye) = (V, a, e) := ⟨_, _, _, rfl⟩
                  have b1 := rdU_in HL8.out 16384 (Ga, 0) (by omega)
                  have b2 := rdU_in HL8.out 16384 (xa, xe) (by omega)
                  rw [e1] at b1
                  rw [e2] at b2
                  simp only at b1 b2
                  have hC : rdA L (Ga, 0) = ((fr, tt, cw), (na, ne)) := by
                    unfold rdA
                    simp only [e1, e2, e3]
                  have hGs : GA (k + 1) = (Al ++ [(fr, tt, cw)], na, ne) := by
                    have h1 := HGA.out
                    have h2 : goK erS (rdA L) (GV vN).2.2 k = (Al, Ga, 0) := by rw [h1, hGk]
                    rw [← h1, goK_step (by rw [h2]; rfl), h2, hC]
                  have HGS := Lib.hid hGs
                  have hu1 : uintR L Ga 0 16384 = (fr, xa, xe) := e1
                  have hu2 : uintR L xa xe 16384 = (tt, ya, ye) := e2
                  have HU3 := Lib.hid e3
                  have hwf : IntKind.i64.wrap fr = fr := by simp [IntKind.wrap, IntKind.bits, IntKind.signed]; omega
                  have hwo : IntKind.i64.wrap tt = tt := by simp [IntKind.wrap, IntKind.bits, IntKind.signed]; omega
                  clear hC hGs hGk e1 e2 e3
                  go_wp2_with fail
                  refine (v6U PP.out.rr hu1).mono ?_
                  rintro ev w6 ⟨rfl, hr, hb⟩
                  have P1 := Lib.hid (PP.out.read hr hb)
                  clear hr hb PP c1 c2 c3 c4
                  go_wp2_with fail
                  refine (v6U P1.out.rr hu2).mono ?_
                  rintro ev w7 ⟨rfl, hr, hb⟩
                  have PP := Lib.hid (P1.out.read hr hb)
                  clear hr hb P1 hu1 hu2 b1 b2
                  go_wp2_with fail
                  have HNB : Hid (∀ w', (∃ cc : Bool, (cc = false → PR w Bd L Vl Al Gl us ya ye qv qa qt cv ca ct w') ∧ (cc = true → PR w Bd L Vl Al Gl us na ne qv qa qt cv ca ct w')) → w'.cell? ⟨Bd + 1, 0, none⟩ = some (.slice qv Vl.length cv) ∧ w'.cell? ⟨Bd + 1, 1, none⟩ = some (.slice qa Al.length ca) ∧ w'.cell? ⟨Bd + 1, 2, none⟩ = some (.slice qt Gl.length ct)) := by
                    refine Lib.hid fun w' ⟨cc, hS⟩ => ?_
                    cases cc
                    · obtain ⟨d0, d1, d2, -⟩ := (hS.1 rfl).nn.o3; exact ⟨d0, d1, d2⟩
                    · obtain ⟨d0, d1, d2, -⟩ := (hS.2 rfl).nn.o3; exact ⟨d0, d1, d2⟩
                  have hGS : GB.Grows (fun (cc : Bool) w' => (cc = false → PR w Bd L Vl Al Gl us ya ye qv qa qt cv ca ct w') ∧ (cc = true → PR w Bd L Vl Al Gl us na ne qv qa qt cv ca ct w')) := fun cc w1 w2 h hb => ⟨fun h0 => (h.1 h0).below hb, fun h0 => (h.2 h0).below hb⟩
                  refine' GB.wp_thenL (β := Bd) _ 8 (fun (cc : Bool) w' => (cc = false → PR w Bd L Vl Al Gl us ya ye qv qa qt cv ca ct w') ∧ (cc = true → PR w Bd L Vl Al Gl us na ne qv qa qt cv ca ct w')) 5 [[], [0], [], [], [], [4], [2, 3, 4, 5], [2, 3, 4, 5, 6]] (GB.Fact.lit _ :: GB.Fact.lit _ :: GB.Fact.lit _ :: GB.Fact.lit _ :: GB.Fact.lit _ :: GB.Fact.lit _ :: GB.Fact.lit _ :: GB.Fact.prop _ _ :: []) (by kernel_rfl) rfl (by kernel_rfl) ⟨fun _ => PP.out.below (Below.refl _ _).drew, fun h0 => by cases h0⟩ ?seqr31
                  case' seqr31 => skip
                  iterate 5 ((first | (apply GB.grow_skip; (case hf => rfl); (case hw => rfl)) | (apply GB.grow_lit; (case hf => rfl); (case hw => rfl); (case hrun => (intro w' hS H; clear H; (obtain ⟨d0, d1, d2⟩ := HNB.out w' hS); clear hS; go_simp; first | done | exact rfl)))); (case hc => (simp only [Act.put, List.setIfInBounds_toArray, List.set_cons_zero, List.set_cons_succ]; first | done | exact rfl)); (try (case hj => rfl)))
                  (refine' GB.grow_callJ (u := .int .i64 cw) rfl Tryz.func31 (by kernel_rfl) rfl rfl ?wtca ?runca ?putca ?nextca; (case wtca => rfl); (case runca => (intro w' hS H; exact (v6C (hS.1 rfl).rr HU3.out).mono (fun ev w2 ⟨h1, h3, h4⟩ => ⟨h1, ⟨(fun h0 => by cases h0), (fun _ => (hS.1 rfl).read h3 h4)⟩, h4⟩))); (case putca => (simp only [Act.put, List.setIfInBounds_toArray, List.set_cons_zero, List.set_cons_succ]; first | done | exact rfl)); (case' nextca => skip))
                  iterate 1 ((first | (apply GB.grow_skip; (case hf => rfl); (case hw => rfl)) | (apply GB.grow_lit; (case hf => rfl); (case hw => rfl); (case hrun => (intro w' hS H; clear H; (obtain ⟨d0, d1, d2⟩ := HNB.out w' hS); clear hS; go_simp; first | done | exact rfl)))); (case hc => (simp only [Act.put, List.setIfInBounds_toArray, List.set_cons_zero, List.set_cons_succ]; first | done | exact rfl)); (try (case hj => rfl)))
                  (refine' GB.grow_make (p := LitTB Bd 60 (fr, tt, cw)) (hp := fun v w w' h hb => LitTB.but h hb) hGS rfl ?wtma ?runma ?putma ?nextma; (case wtma => rfl); (case runma => (intro w' hS H; (have hsz : Bd + 1 < w'.heap.size := by obtain ⟨cc, hS⟩ := hS; cases cc; exact (hS.1 rfl).z1; exact (hS.2 rfl).z1); clear H hS; refine ⟨.slice (some ⟨w'.heap.size, 0, none⟩) 1 1, w'.alloc (.cells #[.int .i64 fr, .int .i64 tt, .int .i64 cw] 60), ?_, ⟨w'.heap.size, rfl, (by omega), Blk.new _ _ _ _ rfl⟩, below_new8 _⟩; clear hsz; go_simp; first | done | exact rfl)); (case putma => (intro v; (simp only [Act.put, List.setIfInBounds_toArray, List.set_cons_zero, List.set_cons_succ]; first | done | exact rfl))); (case' nextma => intro v7))
                  intro cc w9 hS hcc hk9
                  obtain rfl : cc = true := hcc (by decide)
                  obtain ⟨q2, c2', w', hrun, ⟨cs, rfl, hn⟩, hP⟩ := (hS.2 rfl).addA (x := (fr, tt, cw)) (lv := v7) (hk9 7 (by decide)) (by omega)
                  have HRUN := Lib.hid hrun
                  have PN := Lib.hid hP
                  obtain ⟨d0, d1, d2, f0, f1, f2⟩ := hn.o3
                  clear hS hk9 hcc hrun hP hn hGS PP HNB
                  refine wpAny_ready (rs := [8]) (by kernel_rfl) (by simp) (AllReady.cons rfl (fun K hK => ?_) AllReady.nil)
                  refine step_append_run rfl _ _ 34 rfl _ _ _ rfl rfl HRUN.out ?_
                  refine hK _ _ ?_
                  clear hK K
                  refine wpAny_ready (rs := [9]) (by kernel_rfl) (by simp) (AllReady.cons rfl (fun K hK => ?_) AllReady.nil)
                  go_simp
                  refine hK _ _ ?_
                  clear hK K
                  refine wpAny_ready (rs := [10]) (by kernel_rfl) (by simp) (AllReady.cons rfl (fun K hK => ?_) AllReady.nil)
                  go_simp
                  refine hK _ _ ?_
                  clear hK K
                  refine wpAny_done (by kernel_rfl) ?_ _
                  clear d0 d1 d2 f0 f1 f2
                  go_wp2_with fail
                  go_roundw
                  case rel => exact ⟨k + 1, q2, c2', by omega, by go_num, by rw [HGS.out]; exact PN, by rw [HGS.out, List.length_append]; show Al.length + 1 ≤ k + 1; omega⟩
                  case measure => simp [intOf]; omega
                · have hfin : GA aN = (Al, Ga, Ge) := by
                    by_cases h1 : k < aN
                    · have h2 : ¬ Ge = 0 := fun h => hgo ⟨h1, h⟩
                      have := goK_stop (er := erS) (f := rdA L) (s := (GV vN).2.2) (k := k) (by rw [HGA.out, hGk]; exact h2) (aN - k)
                      rw [HGA.out, show k + (aN - k) = aN by omega, hGk] at this
                      exact this
                    · rw [show aN = k by omega, hGk]
                  have hw : (¬ k < aN ∧ decide (k < aN) = false) ∨ (k < aN ∧ decide (k < aN) = true ∧ (Ge == 0) = false) := by
                    by_cases h1 : k < aN
                    · exact Or.inr ⟨h1, decide_eq_true h1, beq_eq_false_iff_ne.2 fun h => hgo ⟨h1, h⟩⟩
                    · exact Or.inl ⟨h1, decide_eq_false h1⟩
                  have HFA := Lib.hid hfin
                  have hlA : Al.length ≤ 16384 := by omega
                  clear hgo hGk hfin hlen
                  go_upto_region 27 with fail
                  go_cut [131] from 121 to 149 (fun c wx => c = .bool false ∧ wx = wr)
                  case first =>
                    rcases hw with ⟨g1, g2⟩ | ⟨g1, g2, g3⟩
                    all_goals
                      go_wp2_with fail
                      go_meet
                      exact ⟨rfl, rfl⟩
                  case rest =>
                    obtain ⟨rfl, rfl⟩ := hcut
                    clear hw c1 c2 c3 c4
                    have eD : tailF L = (if (doneR L Ga Ge).2 ≠ 0 then (emptyN, doneR L Ga Ge) else if (chkN ⟨Vl, Al, Gl⟩).2 ≠ 0 then (emptyN, chkN ⟨Vl, Al, Gl⟩) else (⟨Vl, Al, Gl⟩, fltOK)) := by
                      unfold tailF
                      rw [EN.out, EA.out, HFV.out, HFA.out, HFT.out]
                    have hNN : rdN L = ⟨Vl, Al, Gl⟩ := by rw [EN.out, HFV.out, HFA.out, HFT.out]
                    have HNN := Lib.hid hNN
                    clear hNN HFV HFA HFT EN EA HGT HGV HGA HVB
                    obtain ⟨D, HD⟩ : ∃ D, doneR L Ga Ge = D := ⟨_, rfl⟩
                    rw [HRR.out, HD] at eD
                    have HDD := Lib.hid HD
                    have HED := Lib.hid eD
                    clear HD eD
                    go_wp2_with fail
                    refine (done6_any PP.out.rr).mono ?_
                    rintro ev w10 ⟨dv, rfl, hd, hb⟩
                    rw [HDD.out] at hd
                    obtain ⟨dq, dn, dc, rfl⟩ := hd.shape
                    have PP2 := Lib.hid (PP.out.below hb)
                    have HWD := Lib.hid hd
                    clear hd hb PP
                    obtain ⟨W3, hW3⟩ := named (w10.alloc (.cells #[.slice dq dn dc, .int .i64 D.2] 40))
                    have PP3 : Hid (PR w Bd L Vl Al Gl us Ga Ge qv qa qt cv ca ct W3) := by rw [hW3]; exact Lib.hid (PP2.out.below (below_new8 _))
                    have HWD3 : Hid (WrongV W3 (.agg #[.slice dq dn dc, .int .i64 D.2]) D.1 D.2) := by rw [hW3]; exact Lib.hid (HWD.out.below (below_new8 _))
                    obtain ⟨TW, hTW⟩ : ∃ T, w10.heap.size = T := ⟨_, rfl⟩
                    have KTW : Hid (Blk W3 TW #[.slice dq dn dc, .int .i64 D.2] 40) := by rw [hW3]; exact Lib.hid (Blk.new _ _ _ _ hTW)
                    have hTB : Bd + 1 < TW := by have := PP2.out.z1; omega
                    clear PP2 HWD
                    go_upto_region 33 with fail
                    rw [← hW3]
                    clear hW3 hTW
                    obtain ⟨t0', t1', e0', e1'⟩ := KTW.out.o2
                    obtain ⟨n0, n1, n2', f0, f1, f2⟩ := PP3.out.k0.o3
                    obtain ⟨r0, r1, g0, g1⟩ := PP3.out.k1.o2
                    obtain ⟨m0, m1, m2, -, -, -⟩ := PP3.out.nn.o3
                    by_cases hD : D.2 = 0
                    · have hDb : (D.2 != 0) = false := by simp [hD]
                      have hDi : D.2 = 0 := hD
                      rw [if_neg (by simpa using hD)] at HED
                      clear hD
                      go_wp2_with fail
                      obtain ⟨F, hF⟩ : ∃ F, chkN ⟨Vl, Al, Gl⟩ = F := ⟨_, rfl⟩
                      have hcs := rdN_costs HL8.out
                      have hin' := rdN_in HL8.out
                      rw [HNN.out] at hcs hin'
                      have HCS := Lib.hid hcs
                      have HNV := Lib.hid (PP3.out.pn.net hlV hlA hlT HCS.out)
                      refine (rvcheck HNV.out hin' hF).mono ?_
                      rintro ev w11 ⟨fv, rfl, hf, hb⟩
                      obtain ⟨fq, fn, fc, rfl⟩ := hf.shape
                      have K0 := Lib.hid (PP3.out.k0.keep hb)
                      have K1 := Lib.hid (PP3.out.k1.keep hb)
                      have PN1 := Lib.hid (PP3.out.pn.below hb)
                      have KT1 := Lib.hid (KTW.out.keep hb)
                      have BB1 := Lib.hid (bOn PP3.out.bb hb)
                      have KX1 := Lib.hid (PP3.out.nn.keep hb)
                      have HF1 := Lib.hid hf
                      have HFF := Lib.hid hF
                      have hz0 := PP3.out.z0
                      have hz3 := KT1.out.lt
                      clear hb hf hF hcs hin' HNV PP3 KTW t0' t1' e0' e1' n0 n1 n2' f0 f1 f2 r0 r1 g0 g1 m0 m1 m2 HWD3
                      obtain ⟨t0', t1', e0', e1'⟩ := KT1.out.o2
                      go_upto_region 36 with fail
                      obtain ⟨W4, hW4⟩ := named ((w11.setCell ⟨TW, 0, none⟩ (.slice fq fn fc)).setCell ⟨TW, 1, none⟩ (.int .i64 F.2))
                      rw [← hW4]
                      have KT4 : Hid (Blk W4 TW #[.slice fq fn fc, .int .i64 F.2] 40) := by rw [hW4]; exact Lib.hid (by simpa using (KT1.out.set 0 (.slice fq fn fc)).set 1 (.int .i64 F.2))
                      have K04 : Hid (Blk W4 w.heap.size #[.slice none 0 0, .slice none 0 0, .slice none 0 0] 37) := by rw [hW4]; exact Lib.hid ((K0.out.other _ _ (by omega)).other _ _ (by omega))
                      have K14 : Hid (Blk W4 (w.heap.size + 1) #[.slice none 0 0, .int .i64 0] 40) := by rw [hW4]; exact Lib.hid ((K1.out.other _ _ (by omega)).other _ _ (by omega))
                      have KX4 : Hid (Blk W4 (Bd + 1) #[.slice qv Vl.length cv, .slice qa Al.length ca, .slice qt Gl.length ct] 37) := by rw [hW4]; exact Lib.hid ((KX1.out.other _ _ (by omega)).other _ _ (by omega))
                      have PN4 : Hid (PN W4 (Bd + 2) Vl Al Gl us qv qa qt cv ca ct) := by rw [hW4]; exact Lib.hid ((PN1.out.set KT1.out (Or.inr rfl) _ _).set (KT1.out.set 0 (.slice fq fn fc)) (Or.inr rfl) _ _)
                      have BB4 : Hid (Below w.heap.size w W4) := by
                        rw [hW4]
                        refine Lib.hid ?_
                        iterate 2 (refine Below.setCell ?_ (by simp only []; omega) _)
                        exact BB1.out
                      have HF4 : Hid (WrongV W4 (.agg #[.slice fq fn fc, .int .i64 F.2]) F.1 F.2) := by
                        rw [hW4]
                        refine Lib.hid (HF1.out.only (ks := [TW]) ?_ ?_)
                        · iterate 2 (refine Only.setCell ?_ _ _ (by simp))
                          exact Only.refl _ _
                        · exact NoStr.cons KT1.out (by intro v hv s; simp at hv; rcases hv with rfl | rfl <;> simp) (NoStr.nil _)
                      clear hW4 KT1 K0 K1 KX1 PN1 BB1 HF1 t0' t1' e0' e1'
                      obtain ⟨t0', t1', e0', e1'⟩ := KT4.out.o2
                      obtain ⟨n0, n1, n2', f0, f1, f2⟩ := K04.out.o3
                      obtain ⟨r0, r1, g0, g1⟩ := K14.out.o2
                      obtain ⟨m0, m1, m2, -, -, -⟩ := KX4.out.o3
                      by_cases hE : F.2 = 0
                      · have hEb : (F.2 != 0) = false := by simp [hE]
                        have hRR : R = (⟨Vl, Al, Gl⟩, fltOK) := by rw [HED.out, HFF.out, if_neg (by simpa using hE)]
                        have HR1 := Lib.hid hRR
                        have HFIN := Lib.hid (fin_ok K04.out K14.out PN4.out BB4.out hlV hlA hlT HCS.out)
                        clear hRR hE
                        go_wp2_with fail
                        exact bodyPost_ret (v := .tuple #[.agg #[.slice qv Vl.length cv, .slice qa Al.length ca, .slice qt Gl.length ct], .agg #[.slice none 0 0, .int .i64 0]]) (by simp [results, Tryz.results10, go_sem]; go_simp) rfl ⟨_, _, rfl, by rw [HR1.out]; exact HFIN.out⟩
                      · have hEb : (F.2 != 0) = true := by simp [hE]
                        have hRR : R = (emptyN, F) := by rw [HED.out, HFF.out, if_pos hE]
                        have HR1 := Lib.hid hRR
                        have hne1 : TW ≠ w.heap.size := by omega
                        have hne2 : TW ≠ w.heap.size + 1 := by omega
                        have HFIN2 := Lib.hid (put_err (w := W4.drew) K04.out.drew K14.out.drew HF4.out BB4.out.drew)
                        clear hRR hE
                        go_wp2_with fail
                        go_region
                        all_goals
                          go_wp2_with fail
                          exact bodyPost_ret (v := .tuple #[.agg #[.slice none 0 0, .slice none 0 0, .slice none 0 0], .agg #[.slice fq fn fc, .int .i64 F.2]]) (by simp [results, Tryz.results10, go_sem]; go_simp) rfl ⟨_, _, rfl, by rw [HR1.out]; exact HFIN2.out⟩
                    · have hDb : (D.2 != 0) = true := by simp [hD]
                      have hRR : R = (emptyN, D) := by rw [HED.out, if_pos hD]
                      have HR1 := Lib.hid hRR
                      have hz0 := PP3.out.z0
                      have hne1 : TW ≠ w.heap.size := by omega
                      have hne2 : TW ≠ w.heap.size + 1 := by omega
                      have HFIN2 := Lib.hid (put_err (w := W3.drew) PP3.out.k0.drew PP3.out.k1.drew HWD3.out PP3.out.bb.drew)
                      clear hRR hD
                      go_wp2_with fail
                      go_region
                      all_goals
                        go_wp2_with fail
                        exact bodyPost_ret (v := .tuple #[.agg #[.slice none 0 0, .slice none 0 0, .slice none 0 0], .agg #[.slice dq dn dc, .int .i64 D.2]]) (by simp [results, Tryz.results10, go_sem]; go_simp) rfl ⟨_, _, rfl, by rw [HR1.out]; exact HFIN2.out⟩

end Go.Proofs.YtjapdbegfanfiaaGreatDoor
