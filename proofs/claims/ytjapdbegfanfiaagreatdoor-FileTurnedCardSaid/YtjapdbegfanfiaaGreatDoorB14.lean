/-
  Contracts of nets, by their values alone.
-/
import Derived.Test.YtjapdbegfanfiaaGreatDoorB12
import Derived.Test.YtjapdbegfanfiaaGreatDoorPNetF
import Derived.Test.YtjapdbegfanfiaaGreatDoorB13
import Derived.Test.YtjapdbegfanfiaaGreatDoorRInts
import Derived.Test.YtjapdbegfanfiaaGreatDoorLaw3T
import Derived.Test.YtjapdbegfanfiaaGreatDoorC10
import Derived.Test.YtjapdbegfanfiaaGreatDoorB10
import Derived.Test.YtjapdbegfanfiaaGreatDoorB9
import Derived.Test.YtjapdbegfanfiaaGreatDoorB3
namespace Go.Proofs.YtjapdbegfanfiaaGreatDoor
open Go.RowKit

theorem NetS.val {w : World} {n : NetD} {vq aq tq : Option Addr} {vc ac tc : Nat} (h : NetS w n vq aq tq vc ac tc) : NetV w (netVal n vq aq tq vc ac tc) n := ⟨_, _, _, rfl, h.v, h.a, h.t⟩
theorem NetV.s {w : World} {n : NetD} {vq aq tq : Option Addr} {vc ac tc : Nat} (h : NetV w (netVal n vq aq tq vc ac tc) n) : NetS w n vq aq tq vc ac tc := by
  obtain ⟨uv, ua, ut, e, h1, h2, h3⟩ := h
  simp at e
  obtain ⟨rfl, rfl, rfl⟩ := e
  exact ⟨h1, h2, h3⟩
/-- A small net. -/
structure NetFew (n : NetD) : Prop where
  v : n.v.length ≤ 80
  a : n.a.length ≤ 300
  t : n.t.length ≤ 80
  c : ∀ t ∈ n.t, t.2.2.length ≤ 300
theorem few_of {n : NetD} (h : fewN n = true) : NetFew n := by
  unfold fewN at h
  rw [Bool.and_eq_true] at h
  have h1 := of_decide_eq_true h.1
  exact ⟨h1.1, h1.2.1, h1.2.2, fun t ht => of_decide_eq_true (List.all_eq_true.1 h.2 t ht)⟩
theorem may_of {n : NetD} (h : mayN n = true) : NetFew n ∧ chkN n = fltOK ∧ NetGood n := by
  unfold mayN at h
  rw [Bool.and_eq_true] at h
  have h2 := of_decide_eq_true h.2
  refine ⟨few_of h.1, ?_, good_of h2⟩
  rcases chkN_is n with h3 | h3
  · exact h3
  · exact absurd h2 h3.2
theorem NetFew.small {n : NetD} (h : NetFew n) : NetSmall n := ⟨by have := h.v; omega, by have := h.a; omega, by have := h.t; omega⟩

section
variable {n m : NetD} {w : World} {v u : Value}
/-- The law's To: a bit more than a small net may hold. -/
theorem vto (h : NetV w v n) (hv : n.v.length ≤ 10000) (ha : n.a.length ≤ 100000) (ht : n.t.length ≤ 1000) (hc : ∀ t ∈ n.t, t.2.2.length ≤ 1000) :
    Calls Tryz.prog 16 #[v] w fun e w' => ∃ v, e = .returned v ∧ NetV w' v n ∧ Below w.heap.size w w' := by
  obtain ⟨vq, aq, tq, vc, ac, tc, rfl, hs⟩ := h.shape
  exact to3_any n vq aq tq vc ac tc w hs hv ha ht hc
theorem vtoF (h : NetV w v n) (hf : NetFew n) : Calls Tryz.prog 16 #[v] w fun e w' => ∃ v, e = .returned v ∧ NetV w' v n ∧ Below w.heap.size w w' :=
  vto h (by have := hf.v; omega) (by have := hf.a; omega) (by have := hf.t; omega) (fun t ht => by have := hf.c t ht; omega)
theorem vfew (h : NetV w v n) {B : Bool} (hB : fewN n = B) : Calls Tryz.prog 15 #[v] w fun e w' => e = .returned (.bool B) ∧ Below w.heap.size w w' := by
  obtain ⟨vq, aq, tq, vc, ac, tc, rfl, hs⟩ := h.shape
  rw [← hB]
  exact few_any n vq aq tq vc ac tc w hs
theorem vmay (h : NetV w v n) (hin : InNet n) {B : Bool} (hB : mayN n = B) : Calls Tryz.prog 18 #[v] w fun e w' => e = .returned (.bool B) ∧ Below w.heap.size w w' := by
  obtain ⟨vq, aq, tq, vc, ac, tc, rfl, hs⟩ := h.shape
  rw [← hB]
  exact may_any n vq aq tq vc ac tc w hs hin
theorem vcheck (h : NetV w v n) (hs : NetSmall n) (hin : InNet n) : Calls Tryz.prog 27 #[v] w (EPost (chkN n).1 (chkN n).2 w) := by
  obtain ⟨vq, aq, tq, vc, ac, tc, rfl, hq⟩ := h.shape
  exact ncheck_any n vq aq tq vc ac tc w hq hs hin
/-- Check, of a net of which it is known what is wrong with it. -/
theorem vcheckE (h : NetV w v n) (hs : NetSmall n) (hin : InNet n) {F : Flt} (hF : chkN n = F) : Calls Tryz.prog 27 #[v] w fun e w' => ∃ v, e = .returned v ∧ FaultV w' v F.1 F.2 ∧ Below w.heap.size w w' := by
  rw [← hF]
  exact vcheck h hs hin
theorem vcheck0 (h : NetV w v n) (hs : NetSmall n) (hin : InNet n) (hF : chkN n = fltOK) : Calls Tryz.prog 27 #[v] w fun e w' => e = .returned .nilIface ∧ Below w.heap.size w w' :=
  (vcheckE h hs hin hF).mono fun e w' ⟨v, h1, h2, h3⟩ => ⟨by rw [h1, h2.none0], h3⟩
theorem rvcheck (h : NetV w v n) (hin : InNet n) {F : Flt} (hF : chkN n = F) : Calls Tryz.prog 33 #[v] w (WPost F.1 F.2 w) := by
  obtain ⟨vq, aq, tq, vc, ac, tc, rfl, hq⟩ := h.shape
  rw [← hF]
  exact rchecknet_any n vq aq tq vc ac tc w hq hin
theorem rvsame (h : NetV w v n) (h2 : NetV w u m) {B : Bool} (hB : sameN n m = B) : Calls Tryz.prog 12 #[v, u] w fun e w' => e = .returned (.bool B) ∧ Below w.heap.size w w' := by
  obtain ⟨vq, aq, tq, vc, ac, tc, rfl, hq⟩ := h.shape
  obtain ⟨vq2, aq2, tq2, vc2, ac2, tc2, rfl, hq2⟩ := h2.shape
  rw [← hB]
  exact rsamenet_any n m vq aq tq vc ac tc vq2 aq2 tq2 vc2 ac2 tc2 w hq hq2
end
theorem flt_or {n : NetD} : (chkN n).1 = [] ∧ (chkN n).2 = 0 ∨ 1 ≤ (chkN n).1.length ∧ (chkN n).1.length ≤ 2 ∧ ¬ (chkN n).2 = 0 := by
  have key : ∀ f : Flt, FltIs f → f.1.length ≤ 2 → f.1 = [] ∧ f.2 = 0 ∨ 1 ≤ f.1.length ∧ f.1.length ≤ 2 ∧ ¬ f.2 = 0 := fun f hf hl => by
    rcases hf with rfl | ⟨h1, h2⟩
    · exact Or.inl ⟨rfl, rfl⟩
    · exact Or.inr ⟨List.length_pos_iff.2 h1, hl, h2⟩
  refine key _ (chkN_is n) ?_
  have fb : ∀ {α : Type} (f : Int → α → Flt) (l : List α) (k : Int), (∀ k x, (f k x).1.length ≤ 2) → (firstBad f k l).1.length ≤ 2 := fun f l => by
    induction l with
    | nil => intro k _; simp [firstBad, fltOK]
    | cons x r ih =>
      intro k h
      unfold firstBad
      split
      · exact ih (k + 1) h
      · exact h k x
  unfold chkN
  repeat' split
  all_goals first | (simp; done) | skip
  · refine fb _ _ _ fun k x => ?_
    unfold typeFlt
    split
    · simp [fltOK]
    · unfold turnW; split <;> simp
  · refine fb _ _ _ fun k x => ?_
    unfold vertFlt
    repeat' split
    all_goals simp [fltOK]
  · refine fb _ _ _ fun k x => ?_
    unfold arcFlt
    repeat' split
    all_goals simp [fltOK]
  · refine fb _ _ _ fun k x => ?_
    unfold degFlt
    repeat' split
    all_goals simp [fltOK]

end Go.Proofs.YtjapdbegfanfiaaGreatDoor

/-
  The document's Parse.
-/
namespace Go.Proofs.YtjapdbegfanfiaaGreatDoor
open Go.RowKit

theorem beq_is (x y : Int) : (x == y) = decide (x = y) := by by_cases h : x = y <;> simp [h]
theorem toList_inj {s t : ByteArray} (h : s.toList = t.toList) : s = t := by
  rw [ByteArray.toList_eq, ByteArray.toList_eq] at h
  cases s; cases t
  exact congrArg ByteArray.mk (Array.toList_inj.1 h)
theorem text_inj {l m : List Int} (hl : In8 l) (hm : In8 m) : ((strOfNums l).toList == (strOfNums m).toList) = decide (l = m) := by
  by_cases h : l = m
  · subst h; simp
  · rw [decide_eq_false h]
    exact beq_eq_false_iff_ne.2 fun e => h (strOfNums_inj hl hm (toList_inj e))
theorem sl_part {p : Option Addr} {c a n x y z : Nat} (h1 : x = n) (h2 : y = c - a) (h3 : z = a) : Value.slice (if c = z then p else Option.map (fun q => q.add z) p) x y = .slice (moved p c a) n (c - a) := by
  subst h1 h2 h3
  rfl
theorem OldB.partO {N : Nat} {w : World} {q : Option Addr} {c n : Nat} {l : List Int} (h : OldB N w (.slice q n c) l) (k m : Nat) (hk : k + m ≤ l.length) : OldB N w (.slice (moved q c k) m (c - k)) ((l.drop k).take m) := by
  obtain ⟨x, h1, h2⟩ := h
  refine ⟨x, (h1.drop k (by omega)).take m (by rw [List.length_drop]; omega), ?_⟩
  rcases h2 with rfl | h2
  · exact Or.inl (by simp)
  · exact Or.inr h2
/-- What Parse answers. -/
def P6Post (R : NetD × Flt) (w : World) (ev : Ending) (w' : World) : Prop := ∃ nv wv, ev = .returned (.tuple #[nv, wv]) ∧ NetV w' nv R.1 ∧ WrongV w' wv R.2.1 R.2.2 ∧ Below w.heap.size w w'
theorem netV_empty (w : World) : NetV w (.agg #[.slice none 0 0, .slice none 0 0, .slice none 0 0]) emptyN := ⟨_, _, _, rfl, Or.inl ⟨rfl, _, _, rfl, fun _ => rfl⟩, Or.inl ⟨rfl, _, _, rfl, fun _ => rfl⟩, Or.inl ⟨rfl, _, _, rfl, fun _ => rfl⟩⟩

theorem vAt6' (s : ByteArray) (a e : Int) (w : World) : Calls Tryz.prog 19 #[.string s, .int .i64 a, .int .i64 e] w fun ev w' => ∃ v, ev = .returned v ∧ (WrongV w' v [(s, a)] e ∧ ∃ q n c, v = .agg #[.slice q n c, .int .i64 e]) ∧ Below w.heap.size w w' := by
  refine (at_any s a e w).mono ?_
  rintro ev w' ⟨rfl, rfl⟩
  exact ⟨_, rfl, ⟨atWorld_wrong s a e w, _, _, _, rfl⟩, atWorld_below s a e w⟩
/-- Nothing, and what is wrong, put where they are told from. -/
theorem put_err {w0 w : World} {ps : List (ByteArray × Int)} {e : Int} {q : Option Addr} {n c : Nat} {i : Int} {p0 p1 p2 p3 : Option Addr} {n0 n1 n2 n3 c0' c1 c2 c3 : Nat}
    (kn : Blk w w0.heap.size #[.slice p0 n0 c0', .slice p1 n1 c1, .slice p2 n2 c2] 37) (kw : Blk w (w0.heap.size + 1) #[.slice p3 n3 c3, .int .i64 i] 40) (h : WrongV w (.agg #[.slice q n c, .int .i64 e]) ps e) (hb : Below w0.heap.size w0 w) :
    NetV (((((w.setCell ⟨w0.heap.size, 0, none⟩ (.slice none 0 0)).setCell ⟨w0.heap.size, 1, none⟩ (.slice none 0 0)).setCell ⟨w0.heap.size, 2, none⟩ (.slice none 0 0)).setCell ⟨w0.heap.size + 1, 0, none⟩ (.slice q n c)).setCell ⟨w0.heap.size + 1, 1, none⟩ (.int .i64 e)) (.agg #[.slice none 0 0, .slice none 0 0, .slice none 0 0]) emptyN ∧
      WrongV (((((w.setCell ⟨w0.heap.size, 0, none⟩ (.slice none 0 0)).setCell ⟨w0.heap.size, 1, none⟩ (.slice none 0 0)).setCell ⟨w0.heap.size, 2, none⟩ (.slice none 0 0)).setCell ⟨w0.heap.size + 1, 0, none⟩ (.slice q n c)).setCell ⟨w0.heap.size + 1, 1, none⟩ (.int .i64 e)) (.agg #[.slice q n c, .int .i64 e]) ps e ∧
      Below w0.heap.size w0 (((((w.setCell ⟨w0.heap.size, 0, none⟩ (.slice none 0 0)).setCell ⟨w0.heap.size, 1, none⟩ (.slice none 0 0)).setCell ⟨w0.heap.size, 2, none⟩ (.slice none 0 0)).setCell ⟨w0.heap.size + 1, 0, none⟩ (.slice q n c)).setCell ⟨w0.heap.size + 1, 1, none⟩ (.int .i64 e)) := by
  refine ⟨netV_empty _, ?_, ?_⟩
  · refine h.only (ks := [w0.heap.size, w0.heap.size + 1]) ?_ ?_
    · iterate 5 (refine Only.setCell ?_ _ _ (by simp))
      exact Only.refl _ _
    · exact NoStr.cons kn (by intro v hv s; simp at hv; rcases hv with rfl | rfl | rfl <;> simp) (NoStr.cons kw (by intro v hv s; simp at hv; rcases hv with rfl | rfl <;> simp) (NoStr.nil w))
  · iterate 5 (refine Below.setCell ?_ (by simp only []; omega) _)
    exact hb

set_option maxRecDepth 100000 in
set_option maxHeartbeats 8000000 in
theorem parse6_long (p0 : Option Addr) (c0 : Nat) (B : List Int) (w : World) (h : U8s w (.slice p0 B.length c0) B) (hl : 65536 < B.length) : Calls Tryz.prog 10 #[.slice p0 B.length c0] w (P6Post (parseF B) w) := by
  have hP : parseF B = (emptyN, ([(fileB, 0)], 4)) := by unfold parseF; rw [if_pos hl]
  rw [hP]
  have d1 : decide ((65536 : Int) < (B.length : Int)) = true := decide_eq_true (by omega)
  clear hP
  have HOB := Lib.hid (OldB.of h)
  have hcap : B.length ≤ c0 := HOB.out.cap.2
  clear h
  go_enter Tryz.func10, Tryz.ntmps10
  go_wp2_with fail
  obtain ⟨W, hW⟩ := named ((w.alloc (.cells #[.slice none 0 0, .slice none 0 0, .slice none 0 0] 37)).alloc (.cells #[.slice none 0 0, .int .i64 0] 40))
  rw [← hW]
  have BW : Hid (Below w.heap.size w W) := by rw [hW]; exact Lib.hid ((below_new8 _).trans (below_new8 _ |>.mono (by simp)))
  have KN : Hid (Blk W w.heap.size #[.slice none 0 0, .slice none 0 0, .slice none 0 0] 37) := by rw [hW]; exact Lib.hid ((Blk.new _ _ _ _ rfl).old _)
  have KW : Hid (Blk W (w.heap.size + 1) #[.slice none 0 0, .int .i64 0] 40) := by rw [hW]; exact Lib.hid (Blk.new _ _ _ _ (by simp))
  clear hW
  go_wp2_with fail
  refine (vAt6' fileB 0 4 _).mono ?_
  rintro ev we ⟨wv, rfl, ⟨h1, q2, n2, c2, rfl⟩, hb⟩
  have hx : Below w.heap.size w we := BW.out.trans (hb.mono BW.out.size)
  have kn := (KN.out.carry (show Below W.heap.size W we from hb) KN.out.lt)
  have kw := (KW.out.carry (show Below W.heap.size W we from hb) KW.out.lt)
  obtain ⟨n0, n1, n2', f0, f1, f2⟩ := kn.o3
  obtain ⟨r0, r1, g0, g1⟩ := kw.o2
  have HF := Lib.hid (put_err kn kw h1 hx)
  clear h1 hb hx kn kw
  go_wp2_with fail
  exact bodyPost_ret (v := .tuple #[.agg #[.slice none 0 0, .slice none 0 0, .slice none 0 0], .agg #[.slice q2 n2 c2, .int .i64 4]]) (by simp [results, Tryz.results10, go_sem]; go_simp) rfl ⟨_, _, rfl, HF.out⟩

set_option maxRecDepth 100000 in
set_option maxHeartbeats 8000000 in
theorem parse6_short (p0 : Option Addr) (c0 : Nat) (B : List Int) (w : World) (h : U8s w (.slice p0 B.length c0) B) (hl : ¬ 65536 < B.length) (hs : B.length < 8) : Calls Tryz.prog 10 #[.slice p0 B.length c0] w (P6Post (parseF B) w) := by
  have hP : parseF B = (emptyN, ([(fileB, 0)], 3)) := by unfold parseF; rw [if_neg hl, if_pos hs]
  rw [hP]
  have d1 : decide ((65536 : Int) < (B.length : Int)) = false := decide_eq_false (by omega)
  have d2 : decide ((B.length : Int) < 8) = true := decide_eq_true (by omega)
  clear hP
  have HOB := Lib.hid (OldB.of h)
  have hcap : B.length ≤ c0 := HOB.out.cap.2
  clear h
  go_enter Tryz.func10, Tryz.ntmps10
  go_wp2_with fail
  obtain ⟨W, hW⟩ := named ((w.alloc (.cells #[.slice none 0 0, .slice none 0 0, .slice none 0 0] 37)).alloc (.cells #[.slice none 0 0, .int .i64 0] 40))
  rw [← hW]
  have BW : Hid (Below w.heap.size w W) := by rw [hW]; exact Lib.hid ((below_new8 _).trans (below_new8 _ |>.mono (by simp)))
  have KN : Hid (Blk W w.heap.size #[.slice none 0 0, .slice none 0 0, .slice none 0 0] 37) := by rw [hW]; exact Lib.hid ((Blk.new _ _ _ _ rfl).old _)
  have KW : Hid (Blk W (w.heap.size + 1) #[.slice none 0 0, .int .i64 0] 40) := by rw [hW]; exact Lib.hid (Blk.new _ _ _ _ (by simp))
  clear hW
  go_wp2_with fail
  refine (vAt6' fileB 0 3 _).mono ?_
  rintro ev we ⟨wv, rfl, ⟨h1, q2, n2, c2, rfl⟩, hb⟩
  have hx : Below w.heap.size w we := BW.out.trans (hb.mono BW.out.size)
  have kn := (KN.out.carry (show Below W.heap.size W we from hb) KN.out.lt)
  have kw := (KW.out.carry (show Below W.heap.size W we from hb) KW.out.lt)
  obtain ⟨n0, n1, n2', f0, f1, f2⟩ := kn.o3
  obtain ⟨r0, r1, g0, g1⟩ := kw.o2
  have HF := Lib.hid (put_err kn kw h1 hx)
  clear h1 hb hx kn kw
  go_wp2_with fail
  exact bodyPost_ret (v := .tuple #[.agg #[.slice none 0 0, .slice none 0 0, .slice none 0 0], .agg #[.slice q2 n2 c2, .int .i64 3]]) (by simp [results, Tryz.results10, go_sem]; go_simp) rfl ⟨_, _, rfl, HF.out⟩

set_option maxRecDepth 100000 in
set_option maxHeartbeats 8000000 in
theorem parse6_sum (p0 : Option Addr) (c0 : Nat) (B : List Int) (w : World) (h : U8s w (.slice p0 B.length c0) B) (hin : In8 B) (hl : ¬ 65536 < B.length) (hs : ¬ B.length < 8) (hsum : ¬ sumB (B.take (B.length - 4)) = B.drop (B.length - 4)) : Calls Tryz.prog 10 #[.slice p0 B.length c0] w (P6Post (parseF B) w) := by
  have hP : parseF B = (emptyN, ([(fileB, 0)], 11)) := by unfold parseF; rw [if_neg hl, if_neg hs, if_pos hsum]
  rw [hP]
  have d1 : decide ((65536 : Int) < (B.length : Int)) = false := decide_eq_false (by omega)
  have d2 : decide ((B.length : Int) < 8) = false := decide_eq_false (by omega)
  clear hP
  have HOB := Lib.hid (OldB.of h)
  have hcap : B.length ≤ c0 := HOB.out.cap.2
  clear h
  obtain ⟨M, hM⟩ : ∃ M : Nat, B.length = M + 4 := ⟨B.length - 4, by omega⟩
  have hM4 : B.length - 4 = M := by omega
  have hMi : (B.length : Int) - 4 = (M : Int) := by omega
  have hwM : IntKind.i64.wrap ((B.length : Int) - 4) = (M : Int) := by rw [hMi]; simp [IntKind.wrap, IntKind.bits, IntKind.signed]; omega
  have hMc : M ≤ c0 := by omega
  have hMl : M ≤ B.length := by omega
  have hBc : B.length ≤ c0 := hcap
  obtain ⟨T1, hT1⟩ : ∃ s, strOfNums (sumB (B.take M)) = s := ⟨_, rfl⟩
  obtain ⟨T2, hT2⟩ : ∃ s, strOfNums (B.drop M) = s := ⟨_, rfl⟩
  have K1 := Lib.hid hT1
  have K2 := Lib.hid hT2
  have HTK := Lib.hid (hin.take M)
  have hne : (T1.toList == T2.toList) = false := by
    rw [← hT1, ← hT2, text_inj (sumB_in8 _) (hin.drop M)]
    rw [hM4] at hsum
    exact decide_eq_false hsum
  have HM := Lib.hid hM
  clear hT1 hT2 hMi hM hM4
  go_enter Tryz.func10, Tryz.ntmps10
  go_wp2_with fail
  obtain ⟨W, hW⟩ := named ((w.alloc (.cells #[.slice none 0 0, .slice none 0 0, .slice none 0 0] 37)).alloc (.cells #[.slice none 0 0, .int .i64 0] 40))
  rw [← hW]
  have BW : Hid (Below w.heap.size w W) := by rw [hW]; exact Lib.hid ((below_new8 _).trans (below_new8 _ |>.mono (by simp)))
  have KN : Hid (Blk W w.heap.size #[.slice none 0 0, .slice none 0 0, .slice none 0 0] 37) := by rw [hW]; exact Lib.hid ((Blk.new _ _ _ _ rfl).old _)
  have KW : Hid (Blk W (w.heap.size + 1) #[.slice none 0 0, .int .i64 0] 40) := by rw [hW]; exact Lib.hid (Blk.new _ _ _ _ (by simp))
  clear hW
  go_wp2_with fail
  have hGS : Grows (fun w' => Below W.heap.size W w') := Grows.below W
  refine' wp_growL _ (fun w' => Below W.heap.size W w') [[], [], [1], [2], [0, 3], [4], [5], [], [], [8], [9], [7, 10], [11], [6, 12], [13]] (Fact.lit _ :: Fact.lit _ :: Fact.lit _ :: Fact.lit _ :: Fact.lit _ :: Fact.prop _ _ :: Fact.lit _ :: Fact.lit _ :: Fact.lit _ :: Fact.lit _ :: Fact.lit _ :: Fact.lit _ :: Fact.lit _ :: Fact.lit _ :: Fact.lit _ :: []) (by kernel_rfl) rfl (by kernel_rfl) (Below.refl _ _).drew ?seqsa
  case' seqsa => skip
  iterate 4 ((first | (apply grow_skip; (case hf => rfl); (case hw => rfl)) | (apply grow_lit; (case hf => rfl); (case hw => rfl); (case hrun => (intro w' hS H; clear H; clear hS; go_simp; first | done | exact rfl)))); (case hc => (simp only [Act.put, List.setIfInBounds_toArray, List.set_cons_zero, List.set_cons_succ]; first | done | exact rfl)); (try (case hj => rfl)))
  (refine' grow_lit rfl ?wtL1 ?runL1 ?putL1 ?nextL1; (case wtL1 => rfl); (case runL1 => (intro w' hS H; clear H hS; go_simp; first | done | exact rfl)); (case putL1 => (simp only [Act.put, List.setIfInBounds_toArray, List.set_cons_zero, List.set_cons_succ]; first | done | exact rfl)); (case' nextL1 => skip))
  (refine' grow_callP (p := fun v w => U8s w v (sumB (B.take M))) (hp := fun v w w' h hb => U8s.below h hb) rfl Tryz.func20 (by kernel_rfl) rfl hGS rfl ?wt5 ?run5 ?put5 ?next5; (case wt5 => rfl); (case run5 => (intro w' hS H; exact (rsum8_any _ (B.take M) w' ((HOB.out.keep (BW.out.trans (hS.mono BW.out.size))).take M hMl) HTK.out).mono (fun e w2 ⟨v, z, h1, h2, h3, h4⟩ => ⟨v, h1, ⟨z, h2⟩, h4⟩))); (case put5 => (intro v; simp only [Act.put, List.setIfInBounds_toArray, List.set_cons_zero, List.set_cons_succ]; first | done | exact rfl)); (case' next5 => intro v5))
  (refine' grow_lit rfl ?wtL2 ?runL2 ?putL2 ?nextL2; (case wtL2 => rfl); (case runL2 => (intro w' hS H; (have h3 : U8s w' v5 (sumB (B.take M)) := H 5 (by decide)); (have q := text_of h3 K1.out); clear H hS; go_simp; first | done | exact rfl)); (case putL2 => (simp only [Act.put, List.setIfInBounds_toArray, List.set_cons_zero, List.set_cons_succ]; first | done | exact rfl)); (case' nextL2 => skip))
  iterate 4 ((first | (apply grow_skip; (case hf => rfl); (case hw => rfl)) | (apply grow_lit; (case hf => rfl); (case hw => rfl); (case hrun => (intro w' hS H; clear H; clear hS; go_simp; first | done | exact rfl)))); (case hc => (simp only [Act.put, List.setIfInBounds_toArray, List.set_cons_zero, List.set_cons_succ]; first | done | exact rfl)); (try (case hj => rfl)))
  (refine' grow_lit rfl ?wtL3 ?runL3 ?putL3 ?nextL3; (case wtL3 => rfl); (case runL3 => (intro w' hS H; clear H hS; go_simp; exact sl_part (p := p0) (c := c0) (a := M) (n := 4) (x := B.length - M) (y := c0 - M) (z := M) (by have := HM.out; omega) rfl rfl)); (case putL3 => (simp only [Act.put, List.setIfInBounds_toArray, List.set_cons_zero, List.set_cons_succ]; first | done | exact rfl)); (case' nextL3 => skip))
  (refine' grow_lit rfl ?wtL4 ?runL4 ?putL4 ?nextL4; (case wtL4 => rfl); (case runL4 => (intro w' hS H; (have q := text_of (v := .slice (moved p0 c0 M) 4 (c0 - M)) (l := B.drop M) (by have h5 := ((HOB.out.keep (BW.out.trans (hS.mono BW.out.size)))).part M 4 (by have := HM.out; omega); rwa [List.take_of_length_le (by have := HM.out; rw [List.length_drop]; omega)] at h5) K2.out); clear H hS; go_simp; first | done | exact rfl)); (case putL4 => (simp only [Act.put, List.setIfInBounds_toArray, List.set_cons_zero, List.set_cons_succ]; first | done | exact rfl)); (case' nextL4 => skip))
  iterate 2 ((first | (apply grow_skip; (case hf => rfl); (case hw => rfl)) | (apply grow_lit; (case hf => rfl); (case hw => rfl); (case hrun => (intro w' hS H; clear H; clear hS; go_simp; first | done | exact rfl)))); (case hc => (simp only [Act.put, List.setIfInBounds_toArray, List.set_cons_zero, List.set_cons_succ]; first | done | exact rfl)); (try (case hj => rfl)))
  intro w1 hb _
  have B1 := Lib.hid (BW.out.trans (hb.mono BW.out.size))
  have KN1 := Lib.hid (KN.out.keep hb)
  have KW1 := Lib.hid (KW.out.keep hb)
  clear hb hGS KN KW BW K1 K2 HTK hne hwM
  have KN := KN1
  have KW := KW1
  go_wp2_with fail
  refine (vAt6' fileB 0 11 _).mono ?_
  rintro ev we ⟨wv, rfl, ⟨h1, q2, n2, c2, rfl⟩, hb⟩
  have hx : Below w.heap.size w we := B1.out.trans (hb.mono B1.out.size)
  have kn := (KN.out.carry (show Below w1.heap.size w1 we from hb) KN.out.lt)
  have kw := (KW.out.carry (show Below w1.heap.size w1 we from hb) KW.out.lt)
  obtain ⟨n0, n1, n2', f0, f1, f2⟩ := kn.o3
  obtain ⟨r0, r1, g0, g1⟩ := kw.o2
  have HF := Lib.hid (put_err kn kw h1 hx)
  clear h1 hb hx kn kw
  go_wp2_with fail
  exact bodyPost_ret (v := .tuple #[.agg #[.slice none 0 0, .slice none 0 0, .slice none 0 0], .agg #[.slice q2 n2 c2, .int .i64 11]]) (by simp [results, Tryz.results10, go_sem]; go_simp) rfl ⟨_, _, rfl, HF.out⟩

set_option maxRecDepth 100000 in
set_option maxHeartbeats 8000000 in
theorem parse6_form (p0 : Option Addr) (c0 : Nat) (B : List Int) (w : World) (h : U8s w (.slice p0 B.length c0) B) (hin : In8 B) (hl : ¬ 65536 < B.length) (hs : ¬ B.length < 8) (hsum : sumB (B.take (B.length - 4)) = B.drop (B.length - 4)) (hmark : ¬ B.take 4 = markL) : Calls Tryz.prog 10 #[.slice p0 B.length c0] w (P6Post (parseF B) w) := by
  have hP : parseF B = (emptyN, ([(fileB, 0)], 2)) := by unfold parseF; rw [if_neg hl, if_neg hs, if_neg (by simpa using hsum), if_pos hmark]
  rw [hP]
  have d1 : decide ((65536 : Int) < (B.length : Int)) = false := decide_eq_false (by omega)
  have d2 : decide ((B.length : Int) < 8) = false := decide_eq_false (by omega)
  clear hP
  have HOB := Lib.hid (OldB.of h)
  have hcap : B.length ≤ c0 := HOB.out.cap.2
  clear h
  obtain ⟨M, hM⟩ : ∃ M : Nat, B.length = M + 4 := ⟨B.length - 4, by omega⟩
  have hM4 : B.length - 4 = M := by omega
  have hMi : (B.length : Int) - 4 = (M : Int) := by omega
  have hwM : IntKind.i64.wrap ((B.length : Int) - 4) = (M : Int) := by rw [hMi]; simp [IntKind.wrap, IntKind.bits, IntKind.signed]; omega
  have hMc : M ≤ c0 := by omega
  have hMl : M ≤ B.length := by omega
  have hBc : B.length ≤ c0 := hcap
  obtain ⟨T1, hT1⟩ : ∃ s, strOfNums (sumB (B.take M)) = s := ⟨_, rfl⟩
  obtain ⟨T2, hT2⟩ : ∃ s, strOfNums (B.drop M) = s := ⟨_, rfl⟩
  have K1 := Lib.hid hT1
  have K2 := Lib.hid hT2
  have HTK := Lib.hid (hin.take M)
  have hne : (T1.toList == T2.toList) = true := by
    rw [← hT1, ← hT2, text_inj (sumB_in8 _) (hin.drop M)]
    rw [hM4] at hsum
    exact decide_eq_true hsum
  have HM := Lib.hid hM
  clear hT1 hT2 hMi hM hM4
  obtain ⟨TF, hTF⟩ : ∃ s, strOfNums (B.take 4) = s := ⟨_, rfl⟩
  have K4 := Lib.hid hTF
  have hmk : (TF.toList == ([82, 78, 68, 49] : List UInt8)) = false := by
    have e2 : (⟨#[82, 78, 68, 49]⟩ : ByteArray).toList = [82, 78, 68, 49] := by rw [ByteArray.toList_eq]
    rw [← e2]
    have e : (⟨#[82, 78, 68, 49]⟩ : ByteArray) = strOfNums markL := by decide
    rw [e, ← hTF, text_inj (hin.take 4) (by intro x hx; simp [markL] at hx; omega)]
    exact decide_eq_false hmark
  clear hTF
  go_enter Tryz.func10, Tryz.ntmps10
  go_wp2_with fail
  obtain ⟨W, hW⟩ := named ((w.alloc (.cells #[.slice none 0 0, .slice none 0 0, .slice none 0 0] 37)).alloc (.cells #[.slice none 0 0, .int .i64 0] 40))
  rw [← hW]
  have BW : Hid (Below w.heap.size w W) := by rw [hW]; exact Lib.hid ((below_new8 _).trans (below_new8 _ |>.mono (by simp)))
  have KN : Hid (Blk W w.heap.size #[.slice none 0 0, .slice none 0 0, .slice none 0 0] 37) := by rw [hW]; exact Lib.hid ((Blk.new _ _ _ _ rfl).old _)
  have KW : Hid (Blk W (w.heap.size + 1) #[.slice none 0 0, .int .i64 0] 40) := by rw [hW]; exact Lib.hid (Blk.new _ _ _ _ (by simp))
  clear hW
  go_wp2_with fail
  have hGS : Grows (fun w' => Below W.heap.size W w') := Grows.below W
  refine' wp_growL _ (fun w' => Below W.heap.size W w') [[], [], [1], [2], [0, 3], [4], [5], [], [], [8], [9], [7, 10], [11], [6, 12], [13]] (Fact.lit _ :: Fact.lit _ :: Fact.lit _ :: Fact.lit _ :: Fact.lit _ :: Fact.prop _ _ :: Fact.lit _ :: Fact.lit _ :: Fact.lit _ :: Fact.lit _ :: Fact.lit _ :: Fact.lit _ :: Fact.lit _ :: Fact.lit _ :: Fact.lit _ :: []) (by kernel_rfl) rfl (by kernel_rfl) (Below.refl _ _).drew ?seqsb
  case' seqsb => skip
  iterate 4 ((first | (apply grow_skip; (case hf => rfl); (case hw => rfl)) | (apply grow_lit; (case hf => rfl); (case hw => rfl); (case hrun => (intro w' hS H; clear H; clear hS; go_simp; first | done | exact rfl)))); (case hc => (simp only [Act.put, List.setIfInBounds_toArray, List.set_cons_zero, List.set_cons_succ]; first | done | exact rfl)); (try (case hj => rfl)))
  (refine' grow_lit rfl ?wtL5 ?runL5 ?putL5 ?nextL5; (case wtL5 => rfl); (case runL5 => (intro w' hS H; clear H hS; go_simp; first | done | exact rfl)); (case putL5 => (simp only [Act.put, List.setIfInBounds_toArray, List.set_cons_zero, List.set_cons_succ]; first | done | exact rfl)); (case' nextL5 => skip))
  (refine' grow_callP (p := fun v w => U8s w v (sumB (B.take M))) (hp := fun v w w' h hb => U8s.below h hb) rfl Tryz.func20 (by kernel_rfl) rfl hGS rfl ?wt6 ?run6 ?put6 ?next6; (case wt6 => rfl); (case run6 => (intro w' hS H; exact (rsum8_any _ (B.take M) w' ((HOB.out.keep (BW.out.trans (hS.mono BW.out.size))).take M hMl) HTK.out).mono (fun e w2 ⟨v, z, h1, h2, h3, h4⟩ => ⟨v, h1, ⟨z, h2⟩, h4⟩))); (case put6 => (intro v; simp only [Act.put, List.setIfInBounds_toArray, List.set_cons_zero, List.set_cons_succ]; first | done | exact rfl)); (case' next6 => intro v5))
  (refine' grow_lit rfl ?wtL6 ?runL6 ?putL6 ?nextL6; (case wtL6 => rfl); (case runL6 => (intro w' hS H; (have h3 : U8s w' v5 (sumB (B.take M)) := H 5 (by decide)); (have q := text_of h3 K1.out); clear H hS; go_simp; first | done | exact rfl)); (case putL6 => (simp only [Act.put, List.setIfInBounds_toArray, List.set_cons_zero, List.set_cons_succ]; first | done | exact rfl)); (case' nextL6 => skip))
  iterate 4 ((first | (apply grow_skip; (case hf => rfl); (case hw => rfl)) | (apply grow_lit; (case hf => rfl); (case hw => rfl); (case hrun => (intro w' hS H; clear H; clear hS; go_simp; first | done | exact rfl)))); (case hc => (simp only [Act.put, List.setIfInBounds_toArray, List.set_cons_zero, List.set_cons_succ]; first | done | exact rfl)); (try (case hj => rfl)))
  (refine' grow_lit rfl ?wtL7 ?runL7 ?putL7 ?nextL7; (case wtL7 => rfl); (case runL7 => (intro w' hS H; clear H hS; go_simp; exact sl_part (p := p0) (c := c0) (a := M) (n := 4) (x := B.length - M) (y := c0 - M) (z := M) (by have := HM.out; omega) rfl rfl)); (case putL7 => (simp only [Act.put, List.setIfInBounds_toArray, List.set_cons_zero, List.set_cons_succ]; first | done | exact rfl)); (case' nextL7 => skip))
  (refine' grow_lit rfl ?wtL8 ?runL8 ?putL8 ?nextL8; (case wtL8 => rfl); (case runL8 => (intro w' hS H; (have q := text_of (v := .slice (moved p0 c0 M) 4 (c0 - M)) (l := B.drop M) (by have h5 := ((HOB.out.keep (BW.out.trans (hS.mono BW.out.size)))).part M 4 (by have := HM.out; omega); rwa [List.take_of_length_le (by have := HM.out; rw [List.length_drop]; omega)] at h5) K2.out); clear H hS; go_simp; first | done | exact rfl)); (case putL8 => (simp only [Act.put, List.setIfInBounds_toArray, List.set_cons_zero, List.set_cons_succ]; first | done | exact rfl)); (case' nextL8 => skip))
  iterate 2 ((first | (apply grow_skip; (case hf => rfl); (case hw => rfl)) | (apply grow_lit; (case hf => rfl); (case hw => rfl); (case hrun => (intro w' hS H; clear H; clear hS; go_simp; first | done | exact rfl)))); (case hc => (simp only [Act.put, List.setIfInBounds_toArray, List.set_cons_zero, List.set_cons_succ]; first | done | exact rfl)); (try (case hj => rfl)))
  intro w1 hb _
  have B1 := Lib.hid (BW.out.trans (hb.mono BW.out.size))
  have KN1 := Lib.hid (KN.out.keep hb)
  have KW1 := Lib.hid (KW.out.keep hb)
  clear hb hGS KN KW BW K1 K2 HTK hne hwM
  have KN := KN1
  have KW := KW1
  have q7 := text_of (v := .slice p0 4 c0) (l := B.take 4) ((HOB.out.keep B1.out).take 4 (by omega)) K4.out
  have hc4 : 4 ≤ c0 := by omega
  go_wp2_with fail
  refine (vAt6' fileB 0 2 _).mono ?_
  rintro ev we ⟨wv, rfl, ⟨h1, q2, n2, c2, rfl⟩, hb⟩
  have hx : Below w.heap.size w we := B1.out.trans (hb.mono B1.out.size)
  have kn := (KN.out.carry (show Below w1.heap.size w1 we from hb) KN.out.lt)
  have kw := (KW.out.carry (show Below w1.heap.size w1 we from hb) KW.out.lt)
  obtain ⟨n0, n1, n2', f0, f1, f2⟩ := kn.o3
  obtain ⟨r0, r1, g0, g1⟩ := kw.o2
  have HF := Lib.hid (put_err kn kw h1 hx)
  clear h1 hb hx kn kw
  go_wp2_with fail
  exact bodyPost_ret (v := .tuple #[.agg #[.slice none 0 0, .slice none 0 0, .slice none 0 0], .agg #[.slice q2 n2 c2, .int .i64 2]]) (by simp [results, Tryz.results10, go_sem]; go_simp) rfl ⟨_, _, rfl, HF.out⟩

end Go.Proofs.YtjapdbegfanfiaaGreatDoor

/-
  The document's Parse: what is read.
-/
namespace Go.Proofs.YtjapdbegfanfiaaGreatDoor
open Go.RowKit

theorem RowI.butT {w w' : World} {u : Value} {l : List Int} {b : Nat} {cs : Array Value} {t : TypeId} (h : RowI w u l) (hk : Blk w b cs t) (hne : 2 ≠ t) (hb : But b w w') : RowI w' u l := by
  obtain ⟨base, h⟩ := h
  have hn := own_ne_blk h hk hne
  refine ⟨base, h.1, ?_⟩
  rcases h.2 with h0 | ⟨g, cap, cur, h1, h2, h3, h4⟩
  · exact Or.inl h0
  · refine Or.inr ⟨g, cap, cur, h1, h2, (hb.block g (Array.getElem?_eq_some_iff.1 h3).1 (fun e => hn ?_)).trans h3, h4⟩
    rw [h1, e]; rfl
theorem TabOwn.low {base base' : Nat} {w : World} {v : Value} {t : Tab} (h : TabOwn base w v t) (hb : base' ≤ base) : TabOwn base' w v t := by
  obtain ⟨u, e, h⟩ := h
  refine ⟨u, e, h.1, ?_⟩
  rcases h.2 with h0 | ⟨g, cap, cur, h1, h2, h3⟩
  · exact Or.inl h0
  · exact Or.inr ⟨g, cap, cur, h1, Nat.le_trans hb h2, h3⟩
/-- A literal of one struct, not in block b. -/
def LitTB (b : Nat) (t : TypeId) (x : Tri) (v : Value) (w : World) : Prop := ∃ g, v = .slice (some ⟨g, 0, none⟩) 1 1 ∧ g ≠ b ∧ Blk w g #[.int .i64 x.1, .int .i64 x.2.1, .int .i64 x.2.2] t
theorem LitTB.but {b : Nat} {t : TypeId} {x : Tri} {v : Value} {w w' : World} (h : LitTB b t x v w) (hb : But b w w') : LitTB b t x v w' := by
  obtain ⟨g, e, h1, h2⟩ := h
  exact ⟨g, e, h1, hb.blk h2 h1⟩
theorem LitTB.t {b : Nat} {t : TypeId} {x : Tri} {v : Value} {w : World} (h : LitTB b t x v w) : LitT t x v w := by
  obtain ⟨g, e, h1, h2⟩ := h
  exact ⟨g, e, h2⟩
/-- A literal of one table, above base. -/
def LitRB (b base : Nat) (t : Tab) (v : Value) (w : World) : Prop := ∃ g u, v = .slice (some ⟨g, 0, none⟩) 1 1 ∧ g ≠ b ∧ Blk w g #[.int .i64 t.1, .int .i64 t.2.1, u] 63 ∧ w.ownsRow base 2 1 u t.2.2.length (t.2.2.map (Value.int .i64))
theorem LitRB.but {b base : Nat} (hlt : b < base) {t : Tab} {v : Value} {w w' : World} (h : LitRB b base t v w) (hb : But b w w') : LitRB b base t v w' := by
  obtain ⟨g, u, e, h1, h2, h3⟩ := h
  exact ⟨g, u, e, h1, hb.blk h2 h1, own_but h3 hb hlt⟩
theorem LitRB.r {b base : Nat} {t : Tab} {v : Value} {w : World} (h : LitRB b base t v w) : LitR t.1 t.2.1 t.2.2 v w := by
  obtain ⟨g, u, e, h1, h2, h3⟩ := h
  exact ⟨g, u, e, h2, base, h3⟩
/-- What Parse knows, Readers and rows: n's block is Bd + 1. -/
structure PR (w : World) (Bd : Nat) (L : List Int) (v : List Tri) (a : List Tri) (t : List Tab) (us : List Value) (pl : Nat) (er : Int) (qv qa qt : Option Addr) (cv ca ct : Nat) (wr : World) : Prop where
  rr : R6V wr w.heap.size Bd L pl er
  nn : Blk wr (Bd + 1) #[.slice qv v.length cv, .slice qa a.length ca, .slice qt t.length ct] 37
  vv : wr.ownsRow (Bd + 2) 58 3 (.slice qv v.length cv) v.length (flatT v)
  aa : wr.ownsRow (Bd + 2) 60 3 (.slice qa a.length ca) a.length (flatT a)
  tt : wr.ownsRow (Bd + 2) 63 3 (.slice qt t.length ct) t.length (flatB t us)
  uu : RowsI wr t us
  k0 : Blk wr w.heap.size #[.slice none 0 0, .slice none 0 0, .slice none 0 0] 37
  k1 : Blk wr (w.heap.size + 1) #[.slice none 0 0, .int .i64 0] 40
  bb : Below w.heap.size w wr
  z0 : w.heap.size + 1 < Bd
  z1 : Bd + 1 < wr.heap.size
/-- A read: the Reader's block alone is written. -/
theorem PR.read {w : World} {Bd : Nat} {L : List Int} {v a : List Tri} {t : List Tab} {us : List Value} {pl pl' : Nat} {er er' : Int} {qv qa qt : Option Addr} {cv ca ct : Nat} {wr w' : World} (h : PR w Bd L v a t us pl er qv qa qt cv ca ct wr) (hr : R6V w' w.heap.size Bd L pl' er') (hb : But Bd wr w') : PR w Bd L v a t us pl' er' qv qa qt cv ca ct w' := by
  obtain ⟨q, c, pv, hk⟩ := h.rr.cells
  have hz0 := h.z0
  have hz1 := h.z1
  refine ⟨hr, hb.blk h.nn (by omega), own_but h.vv hb (by omega), own_but h.aa hb (by omega), own_but h.tt hb (by omega), h.uu.map fun u m hu => hu.butT hk (by decide) hb, hb.blk h.k0 (by omega), hb.blk h.k1 (by omega), bOnB h.bb hb (by omega), hz0, by have := hb.size; omega⟩
theorem PR.below {w : World} {Bd : Nat} {L : List Int} {v a : List Tri} {t : List Tab} {us : List Value} {pl : Nat} {er : Int} {qv qa qt : Option Addr} {cv ca ct : Nat} {wr w' : World} (h : PR w Bd L v a t us pl er qv qa qt cv ca ct wr) (hb : Below wr.heap.size wr w') : PR w Bd L v a t us pl er qv qa qt cv ca ct w' := h.read (h.rr.below hb) (But.of_below hb)
/-- The types' row grows by one, and is told again. -/
theorem PR.addT {w : World} {Bd : Nat} {L : List Int} {v a : List Tri} {t : List Tab} {us : List Value} {pl : Nat} {er : Int} {qv qa qt : Option Addr} {cv ca ct : Nat} {w9 : World} (h : PR w Bd L v a t us pl er qv qa qt cv ca ct w9) {x : Tab} {lv : Value} (hl : LitRB Bd (Bd + 2) x lv w9) (hlen : t.length ≤ 1000) :
    ∃ q c w' us', (Builtin.append_ #[35, 35] 35 #[.slice qt t.length ct, lv]).run Tryz.prog w9 = .ok (.slice q (t.length + 1) c) w' ∧
      (∃ cs : Array Value, cs = #[.slice qv v.length cv, .slice qa a.length ca, .slice qt t.length ct] ∧ Blk w' (Bd + 1) cs 37) ∧ PR w Bd L v a (t ++ [x]) us' pl er qv qa q cv ca c (w'.setCell ⟨Bd + 1, 2, none⟩ (.slice q (t.length + 1) c)) := by
  have hz0 := h.z0
  have hz1 := h.z1
  obtain ⟨q, c, w', y, hr, hown, hg, hy⟩ := appR h.tt h.uu.1 hl.r (by omega) (by omega)
  have hn := h.nn.grownO hg (own_ne_blk h.tt h.nn (by decide))
  have hk0 := h.k0.grownO hg (own_ne_blk h.tt h.k0 (by decide))
  have hk1 := h.k1.grownO hg (own_ne_blk h.tt h.k1 (by decide))
  have hu : RowsI w' (t ++ [x]) (us ++ [y]) := (h.uu.map fun u m hu => hu.grown h.tt (by decide) hg).snoc (hy.grown h.tt (by decide) hg)
  have hsz := hg.size
  refine ⟨q, c, w', us ++ [y], hr, ⟨_, rfl, hn⟩, ⟨R6V.set (R6V.grown h.rr h.tt (by decide) (by decide) (by omega) (by omega) hg) hn (by decide) (by decide) (by omega) _ _, ?_, owns_set (owns_grown h.vv h.tt (by decide) hg) hn (by decide) _ _, owns_set (owns_grown h.aa h.tt (by decide) hg) hn (by decide) _ _, ?_, hu.map fun u m hm => hm.set hn (by decide) _ _, hk0.other _ _ (by omega), hk1.other _ _ (by omega), ?_, hz0, by simp [World.setCell]; omega⟩⟩
  · rw [List.length_append]; simpa using hn.set 2 (.slice q (t.length + 1) c)
  · rw [List.length_append]; exact owns_set hown hn (by decide) _ _
  · exact (h.bb.grown hg (by omega) (fun g hg' => by have := own_ge h.tt g (by simpa using hg'); omega)).setCell (p := ⟨Bd + 1, 2, none⟩) (by simp only []; omega) _
theorem PR.addV {w : World} {Bd : Nat} {L : List Int} {v a : List Tri} {t : List Tab} {us : List Value} {pl : Nat} {er : Int} {qv qa qt : Option Addr} {cv ca ct : Nat} {w9 : World} (h : PR w Bd L v a t us pl er qv qa qt cv ca ct w9) {x : Tri} {lv : Value} (hl : LitTB Bd 58 x lv w9) (hlen : v.length ≤ 100000) :
    ∃ q c w', (Builtin.append_ #[33, 33] 33 #[.slice qv v.length cv, lv]).run Tryz.prog w9 = .ok (.slice q (v.length + 1) c) w' ∧
      (∃ cs : Array Value, cs = #[.slice qv v.length cv, .slice qa a.length ca, .slice qt t.length ct] ∧ Blk w' (Bd + 1) cs 37) ∧ PR w Bd L (v ++ [x]) a t us pl er q qa qt c ca ct (w'.setCell ⟨Bd + 1, 0, none⟩ (.slice q (v.length + 1) c)) := by
  have hz0 := h.z0
  have hz1 := h.z1
  obtain ⟨q, c, w', hr, hown, hg⟩ := app3 Tryz.underlying33 infoRVert h.vv hl.t hlen (by omega)
  have hn := h.nn.grownO hg (own_ne_blk h.vv h.nn (by decide))
  have hk0 := h.k0.grownO hg (own_ne_blk h.vv h.k0 (by decide))
  have hk1 := h.k1.grownO hg (own_ne_blk h.vv h.k1 (by decide))
  have hsz := hg.size
  refine ⟨q, c, w', hr, ⟨_, rfl, hn⟩, ⟨R6V.set (R6V.grown h.rr h.vv (by decide) (by decide) (by omega) (by omega) hg) hn (by decide) (by decide) (by omega) _ _, ?_, by rw [List.length_append]; exact owns_set hown hn (by decide) _ _, owns_set (owns_grown h.aa h.vv (by decide) hg) hn (by decide) _ _, owns_set (owns_grown h.tt h.vv (by decide) hg) hn (by decide) _ _, h.uu.map fun u m hm => (hm.grown h.vv (by decide) hg).set hn (by decide) _ _, hk0.other _ _ (by omega), hk1.other _ _ (by omega), ?_, hz0, by simp [World.setCell]; omega⟩⟩
  · rw [List.length_append]; simpa using hn.set 0 (.slice q (v.length + 1) c)
  · exact (h.bb.grown hg (by omega) (fun g hg' => by have := own_ge h.vv g (by simpa using hg'); omega)).setCell (p := ⟨Bd + 1, 0, none⟩) (by simp only []; omega) _
theorem PR.addA {w : World} {Bd : Nat} {L : List Int} {v a : List Tri} {t : List Tab} {us : List Value} {pl : Nat} {er : Int} {qv qa qt : Option Addr} {cv ca ct : Nat} {w9 : World} (h : PR w Bd L v a t us pl er qv qa qt cv ca ct w9) {x : Tri} {lv : Value} (hl : LitTB Bd 60 x lv w9) (hlen : a.length ≤ 100000) :
    ∃ q c w', (Builtin.append_ #[34, 34] 34 #[.slice qa a.length ca, lv]).run Tryz.prog w9 = .ok (.slice q (a.length + 1) c) w' ∧
      (∃ cs : Array Value, cs = #[.slice qv v.length cv, .slice qa a.length ca, .slice qt t.length ct] ∧ Blk w' (Bd + 1) cs 37) ∧ PR w Bd L v (a ++ [x]) t us pl er qv q qt cv c ct (w'.setCell ⟨Bd + 1, 1, none⟩ (.slice q (a.length + 1) c)) := by
  have hz0 := h.z0
  have hz1 := h.z1
  obtain ⟨q, c, w', hr, hown, hg⟩ := app3 Tryz.underlying34 infoRArc h.aa hl.t hlen (by omega)
  have hn := h.nn.grownO hg (own_ne_blk h.aa h.nn (by decide))
  have hk0 := h.k0.grownO hg (own_ne_blk h.aa h.k0 (by decide))
  have hk1 := h.k1.grownO hg (own_ne_blk h.aa h.k1 (by decide))
  have hsz := hg.size
  refine ⟨q, c, w', hr, ⟨_, rfl, hn⟩, ⟨R6V.set (R6V.grown h.rr h.aa (by decide) (by decide) (by omega) (by omega) hg) hn (by decide) (by decide) (by omega) _ _, ?_, owns_set (owns_grown h.vv h.aa (by decide) hg) hn (by decide) _ _, by rw [List.length_append]; exact owns_set hown hn (by decide) _ _, owns_set (owns_grown h.tt h.aa (by decide) hg) hn (by decide) _ _, h.uu.map fun u m hm => (hm.grown h.aa (by decide) hg).set hn (by decide) _ _, hk0.other _ _ (by omega), hk1.other _ _ (by omega), ?_, hz0, by simp [World.setCell]; omega⟩⟩
  · rw [List.length_append]; simpa using hn.set 1 (.slice q (a.length + 1) c)
  · exact (h.bb.grown hg (by omega) (fun g hg' => by have := own_ge h.aa g (by simpa using hg'); omega)).setCell (p := ⟨Bd + 1, 1, none⟩) (by simp only []; omega) _

end Go.Proofs.YtjapdbegfanfiaaGreatDoor
