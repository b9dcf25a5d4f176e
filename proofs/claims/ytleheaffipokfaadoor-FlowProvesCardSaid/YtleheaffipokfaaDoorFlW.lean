/-
  The web of what may be handed in: the program's webOf.
-/
import Derived.Test.YtleheaffipokfaaDoorFlO
namespace Go.Proofs.YtleheaffipokfaaDoor
open Go.RowKit

/-- A region that only makes memory. -/
structure GG.BelS (W : World) (_ : Nat → Bool) (_ : Unit) (w : World) : Prop where
  b : Below W.heap.size W w
def GG.RlB (_ : Unit) (w : World) (_ : Unit) (w' : World) : Prop := Below w.heap.size w w'
theorem GG.BelS.still {W : World} {i : Nat} : GG.Still (GG.BelS W) GG.RlB i := ⟨fun _ _ _ h => ⟨h.b⟩, fun _ _ => Below.refl _ _⟩
/-- A row that is new, whole in a block. -/
def RowN (W : World) (N : Nat) (cs : Array Value) (e : TypeId) (v : Value) (_ : Unit) (w : World) : Prop := ∃ b, v = .slice (some ⟨b, 0, none⟩) N N ∧ Blk w b cs e ∧ W.heap.size ≤ b
theorem RowN.st {W : World} {N : Nat} {cs : Array Value} {e : TypeId} (v : Value) (s : Unit) (w : World) (s' : Unit) (w' : World) (h : RowN W N cs e v s w) (hr : GG.RlB s w s' w') : RowN W N cs e v s' w' := by
  obtain ⟨b, e1, hk, hl⟩ := h
  exact ⟨b, e1, hk.keep hr, hl⟩
theorem make_rows (N : Nat) (hN : N ≤ 16384) (w : World) : (Instr.makeSlice 72 (.int .i64 (N : Int)) (.int .i64 (N : Int))).run Tryd.prog w = .ok (.slice (some ⟨w.heap.size, 0, none⟩) N N) (w.alloc (.cells (List.replicate N (Value.slice none 0 0)).toArray 23)) := by
  obtain ⟨i0, hi, hz0, hz1, hz2⟩ := info_parts infoRowI
  have hbn : (i0.bytes : Int) * (N : Int) ≤ 281474976710656 := by rw [hz2]; omega
  have := run_make (P := Tryd.prog) w 72 23 i0 (.slice none 0 0) Tryd.underlying72 hi hz0 .i64 .i64 N N (by omega) (Int.le_refl _) hbn (by omega)
  rw [hz1, show (Value.slice none 0 0).cells = #[Value.slice none 0 0] from rfl, Nat.mul_one, Int.toNat_natCast, RI.made1] at this
  exact this
theorem blk_ne {w : World} {b b' : Nat} {cs cs' : Array Value} {t t' : TypeId} (h : Blk w b cs t) (h' : Blk w b' cs' t') (ht : t ≠ t') : b ≠ b' := by
  rintro rfl
  unfold Blk at h h'
  rw [h] at h'
  injection h' with h'
  injection h' with _ h'
  exact ht h'
theorem own_av {P : Nat → Prop} {w : World} {base : Nat} {e : TypeId} {size : Nat} {v : Value} {n : Nat} {xs : List Value} (h : w.ownsRow base e size v n xs) (hp : ∀ g, base ≤ g → P g) : Av P v := by
  rcases h.2 with ⟨rfl, e0⟩ | ⟨g, cap, cur, rfl, hg, _⟩
  · exact Av.nil _ _ _
  · exact Av.at (hp g hg)
/-- What webOf answers. -/
def WebPost (P : Nat → Prop) (w : World) (N : Nat) (E : Edg) (S D : List Nat) (ev fv : Value) (e : Ending) (w' : World) : Prop :=
  ∃ p ab us sv dv, e = .returned (pt p) ∧ WebS P w' p N E (markL N S) (markL N D) ev sv dv fv ab us ∧ w.heap.size ≤ p ∧ w.heap.size ≤ ab ∧ Below w.heap.size w w'
/-- .. behind the first end of edge k. -/
def midTo (E : Edg) (k v : Nat) : List Int := atTo E k v ++ (if (eL E k).1 = v then [(k : Int)] else [])
theorem atTo_mid (E : Edg) (k v : Nat) : atTo E (k + 1) v = midTo E k v ++ (if (eL E k).2 = v then [(k : Int)] else []) := rfl
/-- The loop's head. -/
def WebRel (W1 : World) (N : Nat) (E : Edg) (ab : Nat) (iv : Value) (wr : World) : Prop := ∃ k : Nat, k ≤ E.length ∧ iv = .int .i64 k ∧ AtR N (atTo E k) ab W1 wr

section
variable {P : Nat → Prop} {w : World} {N : Nat} {E : Edg} {S D : List Nat} {ev sv dv fv : Value}
set_option maxHeartbeats 4000000 in
set_option maxRecDepth 100000 in
theorem webOf_is (hE : Prs w ev (zE E)) (hea : Av P ev) (hein : EdgIn N E) (hN : N ≤ 4096) (hen : E.length ≤ 16384) (hs : I64s w sv (zN S)) (hS : ∀ x, x ∈ S → x < N) (hsl : S.length ≤ 1000000) (hd : I64s w dv (zN D)) (hD : ∀ x, x ∈ D → x < N) (hdl : D.length ≤ 1000000) (hfv : ∃ q n c, fv = .slice q n c) (hP : ∀ b, w.heap.size ≤ b → P b) :
    Calls Tryd.prog 14 #[.int .i64 N, ev, sv, dv, fv] w (WebPost P w N E S D ev fv) := by
  obtain ⟨eq0, ec0, rfl⟩ := hE.shape
  rw [zE_len] at hE hea
  rw [zE_len]
  have HE := Lib.hid hE
  have HEA := Lib.hid hea
  have HEIN := Lib.hid hein
  have HSV := Lib.hid hs
  have HDV := Lib.hid hd
  have HSN := Lib.hid hS
  have HDN := Lib.hid hD
  have HSL := Lib.hid hsl
  have HDL := Lib.hid hdl
  have HP := Lib.hid hP
  obtain ⟨fq, fl, fc, rfl⟩ := hfv
  have hmk := make_rows N (by omega)
  have DS0 : Hid (GG.BelS w (fun _ => false) () w.drew) := Lib.hid ⟨(Below.refl _ _).drew⟩
  clear hE hea hein hs hd hS hD hsl hdl hP
  go_enter Tryd.func14, Tryd.ntmps14
  go_wp2_with fail
  refine' GG.wp_thenL _ 10 (GG.BelS w) [[], [], [1], [], [], [3, 4], [], [], [3, 4, 5, 6, 7], []] (GG.Fact.lit (Rl := GG.RlB) _ :: GG.Fact.lit (Rl := GG.RlB) _ :: GG.Fact.prop (Rl := GG.RlB) _ _ :: GG.Fact.lit (Rl := GG.RlB) _ :: GG.Fact.lit (Rl := GG.RlB) _ :: GG.Fact.prop (Rl := GG.RlB) _ _ :: GG.Fact.lit (Rl := GG.RlB) _ :: GG.Fact.lit (Rl := GG.RlB) _ :: GG.Fact.prop (Rl := GG.RlB) _ _ :: GG.Fact.lit (Rl := GG.RlB) _ :: []) (by kernel_rfl) rfl (by kernel_rfl) (()) (DS0.out) ?seqwa
  case' seqwa => skip
  (refine' GG.grow_lit (GG.BelS.still) rfl ?wtwa0 ?runwa0 ?putwa0 ?nextwa0; (case wtwa0 => rfl); (case runwa0 => (intro w' hS; (obtain ⟨dn, s, hS⟩ := hS); clear hS; go_simp; first | done | exact rfl)); (case putwa0 => (first | (simp only [Act.put, List.setIfInBounds_toArray, List.set_cons_zero, List.set_cons_succ]; first | done | exact rfl) | rfl)); (case' nextwa0 => skip))
  (refine' GG.grow_lit (GG.BelS.still) rfl ?wtwa1 ?runwa1 ?putwa1 ?nextwa1; (case wtwa1 => rfl); (case runwa1 => (intro w' hS; (obtain ⟨dn, s, hS⟩ := hS); clear hS; go_simp; first | done | exact rfl)); (case putwa1 => (first | (simp only [Act.put, List.setIfInBounds_toArray, List.set_cons_zero, List.set_cons_succ]; first | done | exact rfl) | rfl)); (case' nextwa1 => skip))
  (refine' GG.grow_any_op (p := RowN w N (List.replicate N (Value.slice none 0 0)).toArray 23) (hp := RowN.st) rfl ?wtwa2 ?runwa2 ?putwa2 ?nextwa2; (case wtwa2 => rfl); (case runwa2 => (intro dn s w' hS hd H; (have hb := below_alloc1 (w := w') (.cells (List.replicate N (Value.slice none 0 0)).toArray 23)); refine ⟨_, (), w'.alloc (.cells (List.replicate N (Value.slice none 0 0)).toArray 23), ?_, ⟨w'.heap.size, rfl, Blk.new _ _ _ _ rfl, hS.b.size⟩, ⟨hS.b.trans (hb.mono hS.b.size)⟩, hb, hb.size⟩; (clear hS H; go_simp))); (case putwa2 => (intro v; (simp only [Act.put, List.setIfInBounds_toArray, List.set_cons_zero, List.set_cons_succ]; first | done | exact rfl))); (case' nextwa2 => intro v2))
  (refine' GG.grow_lit (GG.BelS.still) rfl ?wtwa3 ?runwa3 ?putwa3 ?nextwa3; (case wtwa3 => rfl); (case runwa3 => (intro w' hS; (obtain ⟨dn, s, hS⟩ := hS); clear hS; go_simp; first | done | exact rfl)); (case putwa3 => (first | (simp only [Act.put, List.setIfInBounds_toArray, List.set_cons_zero, List.set_cons_succ]; first | done | exact rfl) | rfl)); (case' nextwa3 => skip))
  (refine' GG.grow_lit (GG.BelS.still) rfl ?wtwa4 ?runwa4 ?putwa4 ?nextwa4; (case wtwa4 => rfl); (case runwa4 => (intro w' hS; (obtain ⟨dn, s, hS⟩ := hS); clear hS; go_simp; first | done | exact rfl)); (case putwa4 => (first | (simp only [Act.put, List.setIfInBounds_toArray, List.set_cons_zero, List.set_cons_succ]; first | done | exact rfl) | rfl)); (case' nextwa4 => skip))
  (refine' GG.grow_any_call (p := RowN w N (bolB (markL N S)) 4) (hp := RowN.st) rfl Tryd.func30 (by kernel_rfl) rfl rfl ?wtwa5 ?runwa5 ?putwa5 ?nextwa5; (case wtwa5 => rfl); (case runwa5 => (intro dn s w' hS hd H; exact (marks_is (HSV.out.below hS.b) HSN.out hN HSL.out).mono (fun e w2 h => ⟨_, (), h.1, ⟨_, rfl, h.2.1, hS.b.size⟩, ⟨hS.b.trans (h.2.2.mono hS.b.size)⟩, h.2.2, h.2.2.size⟩))); (case putwa5 => (intro v; (simp only [Act.put, List.setIfInBounds_toArray, List.set_cons_zero, List.set_cons_succ]; first | done | exact rfl))); (case' nextwa5 => intro v5))
  (refine' GG.grow_lit (GG.BelS.still) rfl ?wtwa6 ?runwa6 ?putwa6 ?nextwa6; (case wtwa6 => rfl); (case runwa6 => (intro w' hS; (obtain ⟨dn, s, hS⟩ := hS); clear hS; go_simp; first | done | exact rfl)); (case putwa6 => (first | (simp only [Act.put, List.setIfInBounds_toArray, List.set_cons_zero, List.set_cons_succ]; first | done | exact rfl) | rfl)); (case' nextwa6 => skip))
  (refine' GG.grow_lit (GG.BelS.still) rfl ?wtwa7 ?runwa7 ?putwa7 ?nextwa7; (case wtwa7 => rfl); (case runwa7 => (intro w' hS; (obtain ⟨dn, s, hS⟩ := hS); clear hS; go_simp; first | done | exact rfl)); (case putwa7 => (first | (simp only [Act.put, List.setIfInBounds_toArray, List.set_cons_zero, List.set_cons_succ]; first | done | exact rfl) | rfl)); (case' nextwa7 => skip))
  (refine' GG.grow_any_call (p := RowN w N (bolB (markL N D)) 4) (hp := RowN.st) rfl Tryd.func30 (by kernel_rfl) rfl rfl ?wtwa8 ?runwa8 ?putwa8 ?nextwa8; (case wtwa8 => rfl); (case runwa8 => (intro dn s w' hS hd H; exact (marks_is (HDV.out.below hS.b) HDN.out hN HDL.out).mono (fun e w2 h => ⟨_, (), h.1, ⟨_, rfl, h.2.1, hS.b.size⟩, ⟨hS.b.trans (h.2.2.mono hS.b.size)⟩, h.2.2, h.2.2.size⟩))); (case putwa8 => (intro v; (simp only [Act.put, List.setIfInBounds_toArray, List.set_cons_zero, List.set_cons_succ]; first | done | exact rfl))); (case' nextwa8 => intro v8))
  (refine' GG.grow_lit (GG.BelS.still) rfl ?wtwa9 ?runwa9 ?putwa9 ?nextwa9; (case wtwa9 => rfl); (case runwa9 => (intro w' hS; (obtain ⟨dn, s, hS⟩ := hS); clear hS; go_simp; first | done | exact rfl)); (case putwa9 => (first | (simp only [Act.put, List.setIfInBounds_toArray, List.set_cons_zero, List.set_cons_succ]; first | done | exact rfl) | rfl)); (case' nextwa9 => skip))
  intro dn s w1 hS _ hk
  obtain ⟨ab, rfl, kab, hab⟩ : RowN w N (List.replicate N (Value.slice none 0 0)).toArray 23 v2 s w1 := hk 2 (by decide)
  obtain ⟨sb, rfl, ksb, hsb⟩ : RowN w N (bolB (markL N S)) 4 v5 s w1 := hk 5 (by decide)
  obtain ⟨db, rfl, kdb, hdb⟩ : RowN w N (bolB (markL N D)) 4 v8 s w1 := hk 8 (by decide)
  have HB1 := Lib.hid hS.b
  have KAB := Lib.hid kab
  have KSB := Lib.hid ksb
  have KDB := Lib.hid kdb
  have HLO := Lib.hid (And.intro hab (And.intro hsb hdb))
  have HNE : Hid (sb ≠ ab ∧ db ≠ ab) := Lib.hid ⟨blk_ne ksb kab (by decide), blk_ne kdb kab (by decide)⟩
  clear hS hk kab ksb kdb hab hsb hdb DS0
  refine wpAny_ready (rs := [10]) (by kernel_rfl) (by simp) (AllReady.cons rfl (fun K hK => ?_) AllReady.nil)
  go_simp
  refine hK _ _ ?_
  clear hK K
  refine wpAny_ready (rs := [11]) (by kernel_rfl) (by simp) (AllReady.cons rfl (fun K hK => ?_) AllReady.nil)
  go_simp
  refine hK _ _ ?_
  clear hK K
  refine wpAny_ready (rs := [12]) (by kernel_rfl) (by simp) (AllReady.cons rfl (fun K hK => ?_) AllReady.nil)
  go_simp
  refine hK _ _ ?_
  clear hK K
  refine wpAny_done (by kernel_rfl) ?_ _
  obtain ⟨W2, hW2⟩ := named (w1.alloc (.cells #[.slice eq0 E.length ec0, .slice (some ⟨ab, 0, none⟩) N N, .slice (some ⟨sb, 0, none⟩) N N, .slice (some ⟨db, 0, none⟩) N N, .slice fq fl fc] 74))
  rw [← hW2]
  have hb2 : Below w1.heap.size w1 W2 := by rw [hW2]; exact below_alloc1 _
  have kp : Blk W2 w1.heap.size #[.slice eq0 E.length ec0, .slice (some ⟨ab, 0, none⟩) N N, .slice (some ⟨sb, 0, none⟩) N N, .slice (some ⟨db, 0, none⟩) N N, .slice fq fl fc] 74 := by rw [hW2]; exact Blk.new _ _ _ _ rfl
  obtain ⟨pb, hpb⟩ : ∃ pb, w1.heap.size = pb := ⟨_, rfl⟩
  rw [hpb] at kp
  rw [hpb]
  have HPB : Hid (w.heap.size ≤ pb ∧ ab < W2.heap.size ∧ pb < W2.heap.size ∧ w.heap.size ≤ W2.heap.size ∧ pb ≠ ab) := Lib.hid ⟨by rw [← hpb]; exact HB1.out.size, by have := KAB.out.lt; have := hb2.size; omega, kp.lt, by have := HB1.out.size; have := hb2.size; omega, by have := KAB.out.lt; omega⟩
  have HB2 := Lib.hid (bOn6 HB1.out hb2)
  have KP := Lib.hid kp
  have AT0 : Hid (AtR N (atTo E 0) ab W2 W2) := Lib.hid ⟨⟨List.replicate N (Value.slice none 0 0), KAB.out.keep hb2, by simp, fun i u hu => by
    obtain ⟨-, rfl⟩ := List.mem_replicate.1 (List.mem_of_getElem? hu)
    exact World.ownsRow_nil _ _ _ _, fun i j u u' g hij hi hj hg => by
    obtain ⟨-, rfl⟩ := List.mem_replicate.1 (List.mem_of_getElem? hi)
    simp [Value.ownBlock] at hg⟩, Keep.refl _ _, HPB.out.2.1⟩
  have KSB2 := Lib.hid (KSB.out.keep hb2)
  have KDB2 := Lib.hid (KDB.out.keep hb2)
  clear hW2 hb2 kp hpb HB1 KAB KSB KDB hmk
  go_wp2_with fail
  go_loopw [12, 13, 28] (fun _ _ iv wr => WebRel W2 N E ab iv wr) (fun _ _ iv _ => E.length - (intOf iv).toNat)
  case atStart => exact ⟨0, Nat.zero_le _, rfl, AT0.out⟩
  case round =>
    obtain ⟨k, hk, rfl, hat⟩ := hrel
    have hbw : Below w.heap.size w wr := HB2.out.trans (hat.kp.below (fun b hb => by have := HLO.out.1; omega) HPB.out.2.2.2.1)
    by_cases hlt : k < E.length
    · have hki : (k : Int) < (E.length : Int) := by omega
      obtain ⟨⟨a, c⟩, hac⟩ : ∃ e, eL E k = e := ⟨_, rfl⟩
      have hin := HEIN.out k hlt
      rw [hac] at hin
      obtain ⟨hin1, hin2⟩ : a < N ∧ c < N := hin
      obtain ⟨eb, eo, rfl, e0, e1⟩ := (HE.out.below hbw).at (k := k) (by rw [zE_len]; exact hlt)
      rw [zE_at, hac] at e0 e1
      have hel := World.block_lt_of_cell? wr _ e0
      simp only at e0 e1
      obtain ⟨W3, hW3⟩ := named (wr.alloc (.cells #[.int .i64 a, .int .i64 c] 33))
      have hb3 : Below wr.heap.size wr W3 := by rw [hW3]; exact below_alloc1 _
      obtain ⟨gg, hgg⟩ : ∃ gg, wr.heap.size = gg := ⟨_, rfl⟩
      have kg : Blk W3 gg #[.int .i64 a, .int .i64 c] 33 := by rw [hW3]; exact Blk.new _ _ _ _ hgg
      have AT3 := Lib.hid (hat.old hb3)
      have KG := Lib.hid kg
      have HAC := Lib.hid hac
      have HGA : Hid (gg ≠ ab) := Lib.hid (by have := hat.lt; have := hat.kp.size; omega)
      have hai : (a : Int) < (N : Int) := by omega
      have hci : (c : Int) < (N : Int) := by omega
      have hgl := kg.lt
      have HIN1 := Lib.hid hin1
      have HIN2 := Lib.hid hin2
      have HLEN : Hid (∀ v, (atTo E k v).length ≤ 40000) := Lib.hid fun v => by have := atTo_len E v k; omega
      have HBW := Lib.hid hbw
      have e3 := hW3.symm
      clear hat hb3 kg hac AT0 hW3 hbw
      go_wp2_with fail
      clear e3 e0 e1 hel
      obtain ⟨qx, cx, hcx, -⟩ := AT3.out.cell HIN1.out (by have := HLEN.out a; omega)
      obtain ⟨LL, eLL⟩ : ∃ LL, (atTo E k a).length = LL := ⟨_, rfl⟩
      have HC1 : Hid (midTo E k a = atTo E k a ++ [(k : Int)]) := Lib.hid (by unfold midTo; rw [HAC.out, if_pos rfl])
      have HC2 : Hid (∀ i, i ≠ a → midTo E k i = atTo E k i) := Lib.hid fun i hi => by unfold midTo; rw [HAC.out, if_neg (fun e => hi e.symm), List.append_nil]
      rw [eLL] at hcx
      have SA0 : Hid (GG.S1 16 N (atTo E k) ab a (.slice qx LL cx) gg #[.int .i64 a, .int .i64 c] W2 (fun _ => false) false W3.drew) := Lib.hid ⟨rfl, fun _ => AT3.out.old (Below.refl _ _).drew, AT3.out.kp.on ((Below.refl _ _).drew.mono AT3.out.kp.size), hcx, KG.out.drew⟩
      clear hcx eLL
      refine' GG.wp_thenL _ 18 (GG.S1 16 N (atTo E k) ab a (.slice qx LL cx) gg #[.int .i64 a, .int .i64 c] W2) [[], [0], [0, 1], [0, 1, 2], [], [4], [], [6], [6, 7], [6, 7, 8], [], [10], [6, 7, 8, 9, 10, 11], [6, 7, 8, 9, 10, 11, 12], [], [14], [6, 7, 8, 9, 10, 11, 12, 13, 14, 15], [0, 1, 2, 3, 4, 5, 6, 7, 8, 9, 10, 11, 12, 13, 14, 15, 16]] (GG.Fact.lit (Rl := GG.RlA) _ :: GG.Fact.lit (Rl := GG.RlA) _ :: GG.Fact.lit (Rl := GG.RlA) _ :: GG.Fact.lit (Rl := GG.RlA) _ :: GG.Fact.lit (Rl := GG.RlA) _ :: GG.Fact.lit (Rl := GG.RlA) _ :: GG.Fact.lit (Rl := GG.RlA) _ :: GG.Fact.lit (Rl := GG.RlA) _ :: GG.Fact.lit (Rl := GG.RlA) _ :: GG.Fact.lit (Rl := GG.RlA) _ :: GG.Fact.lit (Rl := GG.RlA) _ :: GG.Fact.lit (Rl := GG.RlA) _ :: GG.Fact.lit (Rl := GG.RlA) _ :: GG.Fact.lit (Rl := GG.RlA) _ :: GG.Fact.lit (Rl := GG.RlA) _ :: GG.Fact.prop (Rl := GG.RlA) _ _ :: GG.Fact.prop (Rl := GG.RlA) _ _ :: GG.Fact.lit (Rl := GG.RlA) _ :: []) (by kernel_rfl) rfl (by kernel_rfl) (false) (SA0.out) ?seqwb
      case' seqwb => skip
      (refine' GG.grow_lit (GG.S1.still (by decide)) rfl ?wtwb0 ?runwb0 ?putwb0 ?nextwb0; (case wtwb0 => rfl); (case runwb0 => (intro w' hS; (obtain ⟨dn, s, hS⟩ := hS); (obtain ⟨c0, c1, c2, c3, c4, -⟩ := (hS.k.blk KP.out HPB.out.2.2.2.2).o5); (obtain ⟨d0, d1, -⟩ := hS.g.o2); (have y0 := hS.c); (have hl0 := (hS.k.blk KP.out HPB.out.2.2.2.2).lt); (have hl1 := hS.g.lt); (have hl2 := World.block_lt_of_cell? w' _ y0); clear hS; go_simp; first | done | exact rfl)); (case putwb0 => (first | (simp only [Act.put, List.setIfInBounds_toArray, List.set_cons_zero, List.set_cons_succ]; first | done | exact rfl) | rfl)); (case' nextwb0 => skip))
      (refine' GG.grow_lit (GG.S1.still (by decide)) rfl ?wtwb1 ?runwb1 ?putwb1 ?nextwb1; (case wtwb1 => rfl); (case runwb1 => (intro w' hS; (obtain ⟨dn, s, hS⟩ := hS); (obtain ⟨c0, c1, c2, c3, c4, -⟩ := (hS.k.blk KP.out HPB.out.2.2.2.2).o5); (obtain ⟨d0, d1, -⟩ := hS.g.o2); (have y0 := hS.c); (have hl0 := (hS.k.blk KP.out HPB.out.2.2.2.2).lt); (have hl1 := hS.g.lt); (have hl2 := World.block_lt_of_cell? w' _ y0); clear hS; go_simp; first | done | exact rfl)); (case putwb1 => (first | (simp only [Act.put, List.setIfInBounds_toArray, List.set_cons_zero, List.set_cons_succ]; first | done | exact rfl) | rfl)); (case' nextwb1 => skip))
      (refine' GG.grow_lit (GG.S1.still (by decide)) rfl ?wtwb2 ?runwb2 ?putwb2 ?nextwb2; (case wtwb2 => rfl); (case runwb2 => (intro w' hS; (obtain ⟨dn, s, hS⟩ := hS); (obtain ⟨c0, c1, c2, c3, c4, -⟩ := (hS.k.blk KP.out HPB.out.2.2.2.2).o5); (obtain ⟨d0, d1, -⟩ := hS.g.o2); (have y0 := hS.c); (have hl0 := (hS.k.blk KP.out HPB.out.2.2.2.2).lt); (have hl1 := hS.g.lt); (have hl2 := World.block_lt_of_cell? w' _ y0); clear hS; go_simp; first | done | exact rfl)); (case putwb2 => (first | (simp only [Act.put, List.setIfInBounds_toArray, List.set_cons_zero, List.set_cons_succ]; first | done | exact rfl) | rfl)); (case' nextwb2 => skip))
      (refine' GG.grow_lit (GG.S1.still (by decide)) rfl ?wtwb3 ?runwb3 ?putwb3 ?nextwb3; (case wtwb3 => rfl); (case runwb3 => (intro w' hS; (obtain ⟨dn, s, hS⟩ := hS); (obtain ⟨c0, c1, c2, c3, c4, -⟩ := (hS.k.blk KP.out HPB.out.2.2.2.2).o5); (obtain ⟨d0, d1, -⟩ := hS.g.o2); (have y0 := hS.c); (have hl0 := (hS.k.blk KP.out HPB.out.2.2.2.2).lt); (have hl1 := hS.g.lt); (have hl2 := World.block_lt_of_cell? w' _ y0); clear hS; go_simp; first | done | exact rfl)); (case putwb3 => (first | (simp only [Act.put, List.setIfInBounds_toArray, List.set_cons_zero, List.set_cons_succ]; first | done | exact rfl) | rfl)); (case' nextwb3 => skip))
      (refine' GG.grow_lit (GG.S1.still (by decide)) rfl ?wtwb4 ?runwb4 ?putwb4 ?nextwb4; (case wtwb4 => rfl); (case runwb4 => (intro w' hS; (obtain ⟨dn, s, hS⟩ := hS); (obtain ⟨c0, c1, c2, c3, c4, -⟩ := (hS.k.blk KP.out HPB.out.2.2.2.2).o5); (obtain ⟨d0, d1, -⟩ := hS.g.o2); (have y0 := hS.c); (have hl0 := (hS.k.blk KP.out HPB.out.2.2.2.2).lt); (have hl1 := hS.g.lt); (have hl2 := World.block_lt_of_cell? w' _ y0); clear hS; go_simp; first | done | exact rfl)); (case putwb4 => (first | (simp only [Act.put, List.setIfInBounds_toArray, List.set_cons_zero, List.set_cons_succ]; first | done | exact rfl) | rfl)); (case' nextwb4 => skip))
      (refine' GG.grow_lit (GG.S1.still (by decide)) rfl ?wtwb5 ?runwb5 ?putwb5 ?nextwb5; (case wtwb5 => rfl); (case runwb5 => (intro w' hS; (obtain ⟨dn, s, hS⟩ := hS); (obtain ⟨c0, c1, c2, c3, c4, -⟩ := (hS.k.blk KP.out HPB.out.2.2.2.2).o5); (obtain ⟨d0, d1, -⟩ := hS.g.o2); (have y0 := hS.c); (have hl0 := (hS.k.blk KP.out HPB.out.2.2.2.2).lt); (have hl1 := hS.g.lt); (have hl2 := World.block_lt_of_cell? w' _ y0); clear hS; go_simp; first | done | exact rfl)); (case putwb5 => (first | (simp only [Act.put, List.setIfInBounds_toArray, List.set_cons_zero, List.set_cons_succ]; first | done | exact rfl) | rfl)); (case' nextwb5 => skip))
      (refine' GG.grow_lit (GG.S1.still (by decide)) rfl ?wtwb6 ?runwb6 ?putwb6 ?nextwb6; (case wtwb6 => rfl); (case runwb6 => (intro w' hS; (obtain ⟨dn, s, hS⟩ := hS); (obtain ⟨c0, c1, c2, c3, c4, -⟩ := (hS.k.blk KP.out HPB.out.2.2.2.2).o5); (obtain ⟨d0, d1, -⟩ := hS.g.o2); (have y0 := hS.c); (have hl0 := (hS.k.blk KP.out HPB.out.2.2.2.2).lt); (have hl1 := hS.g.lt); (have hl2 := World.block_lt_of_cell? w' _ y0); clear hS; go_simp; first | done | exact rfl)); (case putwb6 => (first | (simp only [Act.put, List.setIfInBounds_toArray, List.set_cons_zero, List.set_cons_succ]; first | done | exact rfl) | rfl)); (case' nextwb6 => skip))
      (refine' GG.grow_lit (GG.S1.still (by decide)) rfl ?wtwb7 ?runwb7 ?putwb7 ?nextwb7; (case wtwb7 => rfl); (case runwb7 => (intro w' hS; (obtain ⟨dn, s, hS⟩ := hS); (obtain ⟨c0, c1, c2, c3, c4, -⟩ := (hS.k.blk KP.out HPB.out.2.2.2.2).o5); (obtain ⟨d0, d1, -⟩ := hS.g.o2); (have y0 := hS.c); (have hl0 := (hS.k.blk KP.out HPB.out.2.2.2.2).lt); (have hl1 := hS.g.lt); (have hl2 := World.block_lt_of_cell? w' _ y0); clear hS; go_simp; first | done | exact rfl)); (case putwb7 => (first | (simp only [Act.put, List.setIfInBounds_toArray, List.set_cons_zero, List.set_cons_succ]; first | done | exact rfl) | rfl)); (case' nextwb7 => skip))
      (refine' GG.grow_lit (GG.S1.still (by decide)) rfl ?wtwb8 ?runwb8 ?putwb8 ?nextwb8; (case wtwb8 => rfl); (case runwb8 => (intro w' hS; (obtain ⟨dn, s, hS⟩ := hS); (obtain ⟨c0, c1, c2, c3, c4, -⟩ := (hS.k.blk KP.out HPB.out.2.2.2.2).o5); (obtain ⟨d0, d1, -⟩ := hS.g.o2); (have y0 := hS.c); (have hl0 := (hS.k.blk KP.out HPB.out.2.2.2.2).lt); (have hl1 := hS.g.lt); (have hl2 := World.block_lt_of_cell? w' _ y0); clear hS; go_simp; first | done | exact rfl)); (case putwb8 => (first | (simp only [Act.put, List.setIfInBounds_toArray, List.set_cons_zero, List.set_cons_succ]; first | done | exact rfl) | rfl)); (case' nextwb8 => skip))
      (refine' GG.grow_lit (GG.S1.still (by decide)) rfl ?wtwb9 ?runwb9 ?putwb9 ?nextwb9; (case wtwb9 => rfl); (case runwb9 => (intro w' hS; (obtain ⟨dn, s, hS⟩ := hS); (obtain ⟨c0, c1, c2, c3, c4, -⟩ := (hS.k.blk KP.out HPB.out.2.2.2.2).o5); (obtain ⟨d0, d1, -⟩ := hS.g.o2); (have y0 := hS.c); (have hl0 := (hS.k.blk KP.out HPB.out.2.2.2.2).lt); (have hl1 := hS.g.lt); (have hl2 := World.block_lt_of_cell? w' _ y0); clear hS; go_simp; first | done | exact rfl)); (case putwb9 => (first | (simp only [Act.put, List.setIfInBounds_toArray, List.set_cons_zero, List.set_cons_succ]; first | done | exact rfl) | rfl)); (case' nextwb9 => skip))
      (refine' GG.grow_lit (GG.S1.still (by decide)) rfl ?wtwb10 ?runwb10 ?putwb10 ?nextwb10; (case wtwb10 => rfl); (case runwb10 => (intro w' hS; (obtain ⟨dn, s, hS⟩ := hS); (obtain ⟨c0, c1, c2, c3, c4, -⟩ := (hS.k.blk KP.out HPB.out.2.2.2.2).o5); (obtain ⟨d0, d1, -⟩ := hS.g.o2); (have y0 := hS.c); (have hl0 := (hS.k.blk KP.out HPB.out.2.2.2.2).lt); (have hl1 := hS.g.lt); (have hl2 := World.block_lt_of_cell? w' _ y0); clear hS; go_simp; first | done | exact rfl)); (case putwb10 => (first | (simp only [Act.put, List.setIfInBounds_toArray, List.set_cons_zero, List.set_cons_succ]; first | done | exact rfl) | rfl)); (case' nextwb10 => skip))
      (refine' GG.grow_lit (GG.S1.still (by decide)) rfl ?wtwb11 ?runwb11 ?putwb11 ?nextwb11; (case wtwb11 => rfl); (case runwb11 => (intro w' hS; (obtain ⟨dn, s, hS⟩ := hS); (obtain ⟨c0, c1, c2, c3, c4, -⟩ := (hS.k.blk KP.out HPB.out.2.2.2.2).o5); (obtain ⟨d0, d1, -⟩ := hS.g.o2); (have y0 := hS.c); (have hl0 := (hS.k.blk KP.out HPB.out.2.2.2.2).lt); (have hl1 := hS.g.lt); (have hl2 := World.block_lt_of_cell? w' _ y0); clear hS; go_simp; first | done | exact rfl)); (case putwb11 => (first | (simp only [Act.put, List.setIfInBounds_toArray, List.set_cons_zero, List.set_cons_succ]; first | done | exact rfl) | rfl)); (case' nextwb11 => skip))
      (refine' GG.grow_lit (GG.S1.still (by decide)) rfl ?wtwb12 ?runwb12 ?putwb12 ?nextwb12; (case wtwb12 => rfl); (case runwb12 => (intro w' hS; (obtain ⟨dn, s, hS⟩ := hS); (obtain ⟨c0, c1, c2, c3, c4, -⟩ := (hS.k.blk KP.out HPB.out.2.2.2.2).o5); (obtain ⟨d0, d1, -⟩ := hS.g.o2); (have y0 := hS.c); (have hl0 := (hS.k.blk KP.out HPB.out.2.2.2.2).lt); (have hl1 := hS.g.lt); (have hl2 := World.block_lt_of_cell? w' _ y0); clear hS; go_simp; first | done | exact rfl)); (case putwb12 => (first | (simp only [Act.put, List.setIfInBounds_toArray, List.set_cons_zero, List.set_cons_succ]; first | done | exact rfl) | rfl)); (case' nextwb12 => skip))
      (refine' GG.grow_lit (GG.S1.still (by decide)) rfl ?wtwb13 ?runwb13 ?putwb13 ?nextwb13; (case wtwb13 => rfl); (case runwb13 => (intro w' hS; (obtain ⟨dn, s, hS⟩ := hS); (obtain ⟨c0, c1, c2, c3, c4, -⟩ := (hS.k.blk KP.out HPB.out.2.2.2.2).o5); (obtain ⟨d0, d1, -⟩ := hS.g.o2); (have y0 := hS.c); (have hl0 := (hS.k.blk KP.out HPB.out.2.2.2.2).lt); (have hl1 := hS.g.lt); (have hl2 := World.block_lt_of_cell? w' _ y0); clear hS; go_simp; first | done | exact rfl)); (case putwb13 => (first | (simp only [Act.put, List.setIfInBounds_toArray, List.set_cons_zero, List.set_cons_succ]; first | done | exact rfl) | rfl)); (case' nextwb13 => skip))
      (refine' GG.grow_lit (GG.S1.still (by decide)) rfl ?wtwb14 ?runwb14 ?putwb14 ?nextwb14; (case wtwb14 => rfl); (case runwb14 => (intro w' hS; (obtain ⟨dn, s, hS⟩ := hS); (obtain ⟨c0, c1, c2, c3, c4, -⟩ := (hS.k.blk KP.out HPB.out.2.2.2.2).o5); (obtain ⟨d0, d1, -⟩ := hS.g.o2); (have y0 := hS.c); (have hl0 := (hS.k.blk KP.out HPB.out.2.2.2.2).lt); (have hl1 := hS.g.lt); (have hl2 := World.block_lt_of_cell? w' _ y0); clear hS; go_simp; first | done | exact rfl)); (case putwb14 => (first | (simp only [Act.put, List.setIfInBounds_toArray, List.set_cons_zero, List.set_cons_succ]; first | done | exact rfl) | rfl)); (case' nextwb14 => skip))
      (refine' GG.grow_any_op (p := GG.LitI k) (hp := GG.LitI.st k) rfl ?wtwb15 ?runwb15 ?putwb15 ?nextwb15; (case wtwb15 => rfl); (case runwb15 => (intro dn s w' hS hd H; (refine ⟨.slice (some ⟨w'.heap.size, 0, none⟩) 1 1, s, w'.alloc (.cells #[.int .i64 k] 3), ?_, fun _ => ⟨w'.heap.size, rfl, Blk.new _ _ _ _ rfl⟩, (hS.step (by decide)).old (below_alloc1 _), ⟨id, fun _ => below_alloc1 _⟩, (below_alloc1 _).size⟩; clear hS hd H; go_simp))); (case putwb15 => (intro v; (simp only [Act.put, List.setIfInBounds_toArray, List.set_cons_zero, List.set_cons_succ]; first | done | exact rfl))); (case' nextwb15 => intro v15))
      (refine' GG.grow_any_op (p := GG.App1 N (midTo E k) ab a W2) (hp := GG.App1.st N (midTo E k) ab a W2) rfl ?wtwb16 ?runwb16 ?putwb16 ?nextwb16; (case wtwb16 => rfl); (case runwb16 => (intro dn s w' hS hd H; (obtain rfl : s = false := hS.here.symm.trans hd); (obtain ⟨g, e17, kg⟩ := (show GG.LitI k v15 false w' from H 15 (by decide)) rfl); (obtain ⟨q', n', c', w7, hr, hP, hz, hc7, hg7⟩ := (hS.r rfl).app (L' := (midTo E k)) (v := a) (x := (k : Int)) hS.c kg HIN1.out (by have := HLEN.out a; omega) HC1.out HC2.out); subst e17; exact ⟨_, true, w7, GG.exec_append (.tmp 46) (.tmp 48) 23 rfl rfl rfl hr, ⟨rfl, ⟨_, _, _, rfl⟩, hP⟩, ⟨rfl, (fun h => by cases h), hP.kp, hc7, hg7 _ _ _ hS.g (by decide)⟩, ⟨fun _ => rfl, fun h => by cases h⟩, hz⟩)); (case putwb16 => (intro v; (simp only [Act.put, List.setIfInBounds_toArray, List.set_cons_zero, List.set_cons_succ]; first | done | exact rfl))); (case' nextwb16 => intro v16))
      (refine' GG.grow_lit (GG.S1.still (by decide)) rfl ?wtwb17 ?runwb17 ?putwb17 ?nextwb17; (case wtwb17 => rfl); (case runwb17 => (intro w' hS; (obtain ⟨dn, s, hS⟩ := hS); (obtain ⟨c0, c1, c2, c3, c4, -⟩ := (hS.k.blk KP.out HPB.out.2.2.2.2).o5); (obtain ⟨d0, d1, -⟩ := hS.g.o2); (have y0 := hS.c); (have hl0 := (hS.k.blk KP.out HPB.out.2.2.2.2).lt); (have hl1 := hS.g.lt); (have hl2 := World.block_lt_of_cell? w' _ y0); clear hS; go_simp; first | done | exact rfl)); (case putwb17 => (first | (simp only [Act.put, List.setIfInBounds_toArray, List.set_cons_zero, List.set_cons_succ]; first | done | exact rfl) | rfl)); (case' nextwb17 => skip))
      intro dn s w7 hS7 _ hk7
      obtain ⟨-, ⟨qz, nz, cz, rfl⟩, hP⟩ : GG.App1 N (midTo E k) ab a W2 v16 s w7 := hk7 16 (by decide)
      obtain ⟨⟨uo, hc7⟩, hf7, hl7, hnew⟩ := hP.put
      have HNEW := Lib.hid hnew
      have KG7 := Lib.hid (hS7.g.other (k := ab) a (.slice qz nz cz) HGA.out)
      clear hk7 hS7 hP hnew SA0
      refine wpAny_ready (rs := [18]) (by kernel_rfl) (by simp) (AllReady.cons rfl (fun K hK => ?_) AllReady.nil)
      go_simp
      refine hK _ _ ?_
      clear hK K
      refine wpAny_done (by kernel_rfl) ?_ _
      clear hc7 hf7 hl7
      obtain ⟨W5, hW5⟩ := named (w7.setCell ⟨ab, a, none⟩ (.slice qz nz cz))
      rw [← hW5] at HNEW KG7
      rw [← hW5]
      clear hW5
      have HLM : Hid (∀ v, (midTo E k v).length ≤ 50000) := Lib.hid fun v => by have := HLEN.out v; unfold midTo; rw [List.length_append]; split <;> simp <;> omega
      obtain ⟨qx, cx, hcx, -⟩ := HNEW.out.cell HIN2.out (by have := HLM.out c; omega)
      obtain ⟨LL, eLL⟩ : ∃ LL, (midTo E k c).length = LL := ⟨_, rfl⟩
      have HC3 : Hid (atTo E (k + 1) c = midTo E k c ++ [(k : Int)]) := Lib.hid (by rw [atTo_mid, HAC.out, if_pos rfl])
      have HC4 : Hid (∀ i, i ≠ c → atTo E (k + 1) i = midTo E k i) := Lib.hid fun i hi => by rw [atTo_mid, HAC.out, if_neg (fun e => hi e.symm), List.append_nil]
      rw [eLL] at hcx
      have SA0 : Hid (GG.S1 16 N (midTo E k) ab c (.slice qx LL cx) gg #[.int .i64 a, .int .i64 c] W2 (fun _ => false) false W5.drew) := Lib.hid ⟨rfl, fun _ => HNEW.out.old (Below.refl _ _).drew, HNEW.out.kp.on ((Below.refl _ _).drew.mono HNEW.out.kp.size), hcx, KG7.out.drew⟩
      clear hcx eLL AT3 KG
      go_wp2_with fail
      refine' GG.wp_thenL _ 18 (GG.S1 16 N (midTo E k) ab c (.slice qx LL cx) gg #[.int .i64 a, .int .i64 c] W2) [[], [0], [0, 1], [0, 1, 2], [], [4], [], [6], [6, 7], [6, 7, 8], [], [10], [6, 7, 8, 9, 10, 11], [6, 7, 8, 9, 10, 11, 12], [], [14], [6, 7, 8, 9, 10, 11, 12, 13, 14, 15], [0, 1, 2, 3, 4, 5, 6, 7, 8, 9, 10, 11, 12, 13, 14, 15, 16]] (GG.Fact.lit (Rl := GG.RlA) _ :: GG.Fact.lit (Rl := GG.RlA) _ :: GG.Fact.lit (Rl := GG.RlA) _ :: GG.Fact.lit (Rl := GG.RlA) _ :: GG.Fact.lit (Rl := GG.RlA) _ :: GG.Fact.lit (Rl := GG.RlA) _ :: GG.Fact.lit (Rl := GG.RlA) _ :: GG.Fact.lit (Rl := GG.RlA) _ :: GG.Fact.lit (Rl := GG.RlA) _ :: GG.Fact.lit (Rl := GG.RlA) _ :: GG.Fact.lit (Rl := GG.RlA) _ :: GG.Fact.lit (Rl := GG.RlA) _ :: GG.Fact.lit (Rl := GG.RlA) _ :: GG.Fact.lit (Rl := GG.RlA) _ :: GG.Fact.lit (Rl := GG.RlA) _ :: GG.Fact.prop (Rl := GG.RlA) _ _ :: GG.Fact.prop (Rl := GG.RlA) _ _ :: GG.Fact.lit (Rl := GG.RlA) _ :: []) (by kernel_rfl) rfl (by kernel_rfl) (false) (SA0.out) ?seqwc
      case' seqwc => skip
      (refine' GG.grow_lit (GG.S1.still (by decide)) rfl ?wtwc0 ?runwc0 ?putwc0 ?nextwc0; (case wtwc0 => rfl); (case runwc0 => (intro w' hS; (obtain ⟨dn, s, hS⟩ := hS); (obtain ⟨c0, c1, c2, c3, c4, -⟩ := (hS.k.blk KP.out HPB.out.2.2.2.2).o5); (obtain ⟨d0, d1, -⟩ := hS.g.o2); (have y0 := hS.c); (have hl0 := (hS.k.blk KP.out HPB.out.2.2.2.2).lt); (have hl1 := hS.g.lt); (have hl2 := World.block_lt_of_cell? w' _ y0); clear hS; go_simp; first | done | exact rfl)); (case putwc0 => (first | (simp only [Act.put, List.setIfInBounds_toArray, List.set_cons_zero, List.set_cons_succ]; first | done | exact rfl) | rfl)); (case' nextwc0 => skip))
      (refine' GG.grow_lit (GG.S1.still (by decide)) rfl ?wtwc1 ?runwc1 ?putwc1 ?nextwc1; (case wtwc1 => rfl); (case runwc1 => (intro w' hS; (obtain ⟨dn, s, hS⟩ := hS); (obtain ⟨c0, c1, c2, c3, c4, -⟩ := (hS.k.blk KP.out HPB.out.2.2.2.2).o5); (obtain ⟨d0, d1, -⟩ := hS.g.o2); (have y0 := hS.c); (have hl0 := (hS.k.blk KP.out HPB.out.2.2.2.2).lt); (have hl1 := hS.g.lt); (have hl2 := World.block_lt_of_cell? w' _ y0); clear hS; go_simp; first | done | exact rfl)); (case putwc1 => (first | (simp only [Act.put, List.setIfInBounds_toArray, List.set_cons_zero, List.set_cons_succ]; first | done | exact rfl) | rfl)); (case' nextwc1 => skip))
      (refine' GG.grow_lit (GG.S1.still (by decide)) rfl ?wtwc2 ?runwc2 ?putwc2 ?nextwc2; (case wtwc2 => rfl); (case runwc2 => (intro w' hS; (obtain ⟨dn, s, hS⟩ := hS); (obtain ⟨c0, c1, c2, c3, c4, -⟩ := (hS.k.blk KP.out HPB.out.2.2.2.2).o5); (obtain ⟨d0, d1, -⟩ := hS.g.o2); (have y0 := hS.c); (have hl0 := (hS.k.blk KP.out HPB.out.2.2.2.2).lt); (have hl1 := hS.g.lt); (have hl2 := World.block_lt_of_cell? w' _ y0); clear hS; go_simp; first | done | exact rfl)); (case putwc2 => (first | (simp only [Act.put, List.setIfInBounds_toArray, List.set_cons_zero, List.set_cons_succ]; first | done | exact rfl) | rfl)); (case' nextwc2 => skip))
      (refine' GG.grow_lit (GG.S1.still (by decide)) rfl ?wtwc3 ?runwc3 ?putwc3 ?nextwc3; (case wtwc3 => rfl); (case runwc3 => (intro w' hS; (obtain ⟨dn, s, hS⟩ := hS); (obtain ⟨c0, c1, c2, c3, c4, -⟩ := (hS.k.blk KP.out HPB.out.2.2.2.2).o5); (obtain ⟨d0, d1, -⟩ := hS.g.o2); (have y0 := hS.c); (have hl0 := (hS.k.blk KP.out HPB.out.2.2.2.2).lt); (have hl1 := hS.g.lt); (have hl2 := World.block_lt_of_cell? w' _ y0); clear hS; go_simp; first | done | exact rfl)); (case putwc3 => (first | (simp only [Act.put, List.setIfInBounds_toArray, List.set_cons_zero, List.set_cons_succ]; first | done | exact rfl) | rfl)); (case' nextwc3 => skip))
      (refine' GG.grow_lit (GG.S1.still (by decide)) rfl ?wtwc4 ?runwc4 ?putwc4 ?nextwc4; (case wtwc4 => rfl); (case runwc4 => (intro w' hS; (obtain ⟨dn, s, hS⟩ := hS); (obtain ⟨c0, c1, c2, c3, c4, -⟩ := (hS.k.blk KP.out HPB.out.2.2.2.2).o5); (obtain ⟨d0, d1, -⟩ := hS.g.o2); (have y0 := hS.c); (have hl0 := (hS.k.blk KP.out HPB.out.2.2.2.2).lt); (have hl1 := hS.g.lt); (have hl2 := World.block_lt_of_cell? w' _ y0); clear hS; go_simp; first | done | exact rfl)); (case putwc4 => (first | (simp only [Act.put, List.setIfInBounds_toArray, List.set_cons_zero, List.set_cons_succ]; first | done | exact rfl) | rfl)); (case' nextwc4 => skip))
      (refine' GG.grow_lit (GG.S1.still (by decide)) rfl ?wtwc5 ?runwc5 ?putwc5 ?nextwc5; (case wtwc5 => rfl); (case runwc5 => (intro w' hS; (obtain ⟨dn, s, hS⟩ := hS); (obtain ⟨c0, c1, c2, c3, c4, -⟩ := (hS.k.blk KP.out HPB.out.2.2.2.2).o5); (obtain ⟨d0, d1, -⟩ := hS.g.o2); (have y0 := hS.c); (have hl0 := (hS.k.blk KP.out HPB.out.2.2.2.2).lt); (have hl1 := hS.g.lt); (have hl2 := World.block_lt_of_cell? w' _ y0); clear hS; go_simp; first | done | exact rfl)); (case putwc5 => (first | (simp only [Act.put, List.setIfInBounds_toArray, List.set_cons_zero, List.set_cons_succ]; first | done | exact rfl) | rfl)); (case' nextwc5 => skip))
      (refine' GG.grow_lit (GG.S1.still (by decide)) rfl ?wtwc6 ?runwc6 ?putwc6 ?nextwc6; (case wtwc6 => rfl); (case runwc6 => (intro w' hS; (obtain ⟨dn, s, hS⟩ := hS); (obtain ⟨c0, c1, c2, c3, c4, -⟩ := (hS.k.blk KP.out HPB.out.2.2.2.2).o5); (obtain ⟨d0, d1, -⟩ := hS.g.o2); (have y0 := hS.c); (have hl0 := (hS.k.blk KP.out HPB.out.2.2.2.2).lt); (have hl1 := hS.g.lt); (have hl2 := World.block_lt_of_cell? w' _ y0); clear hS; go_simp; first | done | exact rfl)); (case putwc6 => (first | (simp only [Act.put, List.setIfInBounds_toArray, List.set_cons_zero, List.set_cons_succ]; first | done | exact rfl) | rfl)); (case' nextwc6 => skip))
      (refine' GG.grow_lit (GG.S1.still (by decide)) rfl ?wtwc7 ?runwc7 ?putwc7 ?nextwc7; (case wtwc7 => rfl); (case runwc7 => (intro w' hS; (obtain ⟨dn, s, hS⟩ := hS); (obtain ⟨c0, c1, c2, c3, c4, -⟩ := (hS.k.blk KP.out HPB.out.2.2.2.2).o5); (obtain ⟨d0, d1, -⟩ := hS.g.o2); (have y0 := hS.c); (have hl0 := (hS.k.blk KP.out HPB.out.2.2.2.2).lt); (have hl1 := hS.g.lt); (have hl2 := World.block_lt_of_cell? w' _ y0); clear hS; go_simp; first | done | exact rfl)); (case putwc7 => (first | (simp only [Act.put, List.setIfInBounds_toArray, List.set_cons_zero, List.set_cons_succ]; first | done | exact rfl) | rfl)); (case' nextwc7 => skip))
      (refine' GG.grow_lit (GG.S1.still (by decide)) rfl ?wtwc8 ?runwc8 ?putwc8 ?nextwc8; (case wtwc8 => rfl); (case runwc8 => (intro w' hS; (obtain ⟨dn, s, hS⟩ := hS); (obtain ⟨c0, c1, c2, c3, c4, -⟩ := (hS.k.blk KP.out HPB.out.2.2.2.2).o5); (obtain ⟨d0, d1, -⟩ := hS.g.o2); (have y0 := hS.c); (have hl0 := (hS.k.blk KP.out HPB.out.2.2.2.2).lt); (have hl1 := hS.g.lt); (have hl2 := World.block_lt_of_cell? w' _ y0); clear hS; go_simp; first | done | exact rfl)); (case putwc8 => (first | (simp only [Act.put, List.setIfInBounds_toArray, List.set_cons_zero, List.set_cons_succ]; first | done | exact rfl) | rfl)); (case' nextwc8 => skip))
      (refine' GG.grow_lit (GG.S1.still (by decide)) rfl ?wtwc9 ?runwc9 ?putwc9 ?nextwc9; (case wtwc9 => rfl); (case runwc9 => (intro w' hS; (obtain ⟨dn, s, hS⟩ := hS); (obtain ⟨c0, c1, c2, c3, c4, -⟩ := (hS.k.blk KP.out HPB.out.2.2.2.2).o5); (obtain ⟨d0, d1, -⟩ := hS.g.o2); (have y0 := hS.c); (have hl0 := (hS.k.blk KP.out HPB.out.2.2.2.2).lt); (have hl1 := hS.g.lt); (have hl2 := World.block_lt_of_cell? w' _ y0); clear hS; go_simp; first | done | exact rfl)); (case putwc9 => (first | (simp only [Act.put, List.setIfInBounds_toArray, List.set_cons_zero, List.set_cons_succ]; first | done | exact rfl) | rfl)); (case' nextwc9 => skip))
      (refine' GG.grow_lit (GG.S1.still (by decide)) rfl ?wtwc10 ?runwc10 ?putwc10 ?nextwc10; (case wtwc10 => rfl); (case runwc10 => (intro w' hS; (obtain ⟨dn, s, hS⟩ := hS); (obtain ⟨c0, c1, c2, c3, c4, -⟩ := (hS.k.blk KP.out HPB.out.2.2.2.2).o5); (obtain ⟨d0, d1, -⟩ := hS.g.o2); (have y0 := hS.c); (have hl0 := (hS.k.blk KP.out HPB.out.2.2.2.2).lt); (have hl1 := hS.g.lt); (have hl2 := World.block_lt_of_cell? w' _ y0); clear hS; go_simp; first | done | exact rfl)); (case putwc10 => (first | (simp only [Act.put, List.setIfInBounds_toArray, List.set_cons_zero, List.set_cons_succ]; first | done | exact rfl) | rfl)); (case' nextwc10 => skip))
      (refine' GG.grow_lit (GG.S1.still (by decide)) rfl ?wtwc11 ?runwc11 ?putwc11 ?nextwc11; (case wtwc11 => rfl); (case runwc11 => (intro w' hS; (obtain ⟨dn, s, hS⟩ := hS); (obtain ⟨c0, c1, c2, c3, c4, -⟩ := (hS.k.blk KP.out HPB.out.2.2.2.2).o5); (obtain ⟨d0, d1, -⟩ := hS.g.o2); (have y0 := hS.c); (have hl0 := (hS.k.blk KP.out HPB.out.2.2.2.2).lt); (have hl1 := hS.g.lt); (have hl2 := World.block_lt_of_cell? w' _ y0); clear hS; go_simp; first | done | exact rfl)); (case putwc11 => (first | (simp only [Act.put, List.setIfInBounds_toArray, List.set_cons_zero, List.set_cons_succ]; first | done | exact rfl) | rfl)); (case' nextwc11 => skip))
      (refine' GG.grow_lit (GG.S1.still (by decide)) rfl ?wtwc12 ?runwc12 ?putwc12 ?nextwc12; (case wtwc12 => rfl); (case runwc12 => (intro w' hS; (obtain ⟨dn, s, hS⟩ := hS); (obtain ⟨c0, c1, c2, c3, c4, -⟩ := (hS.k.blk KP.out HPB.out.2.2.2.2).o5); (obtain ⟨d0, d1, -⟩ := hS.g.o2); (have y0 := hS.c); (have hl0 := (hS.k.blk KP.out HPB.out.2.2.2.2).lt); (have hl1 := hS.g.lt); (have hl2 := World.block_lt_of_cell? w' _ y0); clear hS; go_simp; first | done | exact rfl)); (case putwc12 => (first | (simp only [Act.put, List.setIfInBounds_toArray, List.set_cons_zero, List.set_cons_succ]; first | done | exact rfl) | rfl)); (case' nextwc12 => skip))
      (refine' GG.grow_lit (GG.S1.still (by decide)) rfl ?wtwc13 ?runwc13 ?putwc13 ?nextwc13; (case wtwc13 => rfl); (case runwc13 => (intro w' hS; (obtain ⟨dn, s, hS⟩ := hS); (obtain ⟨c0, c1, c2, c3, c4, -⟩ := (hS.k.blk KP.out HPB.out.2.2.2.2).o5); (obtain ⟨d0, d1, -⟩ := hS.g.o2); (have y0 := hS.c); (have hl0 := (hS.k.blk KP.out HPB.out.2.2.2.2).lt); (have hl1 := hS.g.lt); (have hl2 := World.block_lt_of_cell? w' _ y0); clear hS; go_simp; first | done | exact rfl)); (case putwc13 => (first | (simp only [Act.put, List.setIfInBounds_toArray, List.set_cons_zero, List.set_cons_succ]; first | done | exact rfl) | rfl)); (case' nextwc13 => skip))
      (refine' GG.grow_lit (GG.S1.still (by decide)) rfl ?wtwc14 ?runwc14 ?putwc14 ?nextwc14; (case wtwc14 => rfl); (case runwc14 => (intro w' hS; (obtain ⟨dn, s, hS⟩ := hS); (obtain ⟨c0, c1, c2, c3, c4, -⟩ := (hS.k.blk KP.out HPB.out.2.2.2.2).o5); (obtain ⟨d0, d1, -⟩ := hS.g.o2); (have y0 := hS.c); (have hl0 := (hS.k.blk KP.out HPB.out.2.2.2.2).lt); (have hl1 := hS.g.lt); (have hl2 := World.block_lt_of_cell? w' _ y0); clear hS; go_simp; first | done | exact rfl)); (case putwc14 => (first | (simp only [Act.put, List.setIfInBounds_toArray, List.set_cons_zero, List.set_cons_succ]; first | done | exact rfl) | rfl)); (case' nextwc14 => skip))
      (refine' GG.grow_any_op (p := GG.LitI k) (hp := GG.LitI.st k) rfl ?wtwc15 ?runwc15 ?putwc15 ?nextwc15; (case wtwc15 => rfl); (case runwc15 => (intro dn s w' hS hd H; (refine ⟨.slice (some ⟨w'.heap.size, 0, none⟩) 1 1, s, w'.alloc (.cells #[.int .i64 k] 3), ?_, fun _ => ⟨w'.heap.size, rfl, Blk.new _ _ _ _ rfl⟩, (hS.step (by decide)).old (below_alloc1 _), ⟨id, fun _ => below_alloc1 _⟩, (below_alloc1 _).size⟩; clear hS hd H; go_simp))); (case putwc15 => (intro v; (simp only [Act.put, List.setIfInBounds_toArray, List.set_cons_zero, List.set_cons_succ]; first | done | exact rfl))); (case' nextwc15 => intro v15))
      (refine' GG.grow_any_op (p := GG.App1 N (atTo E (k + 1)) ab c W2) (hp := GG.App1.st N (atTo E (k + 1)) ab c W2) rfl ?wtwc16 ?runwc16 ?putwc16 ?nextwc16; (case wtwc16 => rfl); (case runwc16 => (intro dn s w' hS hd H; (obtain rfl : s = false := hS.here.symm.trans hd); (obtain ⟨g, e17, kg⟩ := (show GG.LitI k v15 false w' from H 15 (by decide)) rfl); (obtain ⟨q', n', c', w7, hr, hP, hz, hc7, hg7⟩ := (hS.r rfl).app (L' := (atTo E (k + 1))) (v := c) (x := (k : Int)) hS.c kg HIN2.out (by have := HLM.out c; omega) HC3.out HC4.out); subst e17; exact ⟨_, true, w7, GG.exec_append (.tmp 64) (.tmp 66) 23 rfl rfl rfl hr, ⟨rfl, ⟨_, _, _, rfl⟩, hP⟩, ⟨rfl, (fun h => by cases h), hP.kp, hc7, hg7 _ _ _ hS.g (by decide)⟩, ⟨fun _ => rfl, fun h => by cases h⟩, hz⟩)); (case putwc16 => (intro v; (simp only [Act.put, List.setIfInBounds_toArray, List.set_cons_zero, List.set_cons_succ]; first | done | exact rfl))); (case' nextwc16 => intro v16))
      (refine' GG.grow_lit (GG.S1.still (by decide)) rfl ?wtwc17 ?runwc17 ?putwc17 ?nextwc17; (case wtwc17 => rfl); (case runwc17 => (intro w' hS; (obtain ⟨dn, s, hS⟩ := hS); (obtain ⟨c0, c1, c2, c3, c4, -⟩ := (hS.k.blk KP.out HPB.out.2.2.2.2).o5); (obtain ⟨d0, d1, -⟩ := hS.g.o2); (have y0 := hS.c); (have hl0 := (hS.k.blk KP.out HPB.out.2.2.2.2).lt); (have hl1 := hS.g.lt); (have hl2 := World.block_lt_of_cell? w' _ y0); clear hS; go_simp; first | done | exact rfl)); (case putwc17 => (first | (simp only [Act.put, List.setIfInBounds_toArray, List.set_cons_zero, List.set_cons_succ]; first | done | exact rfl) | rfl)); (case' nextwc17 => skip))
      intro dn s w7 hS7 _ hk7
      obtain ⟨-, ⟨qz, nz, cz, rfl⟩, hP⟩ : GG.App1 N (atTo E (k + 1)) ab c W2 v16 s w7 := hk7 16 (by decide)
      obtain ⟨⟨uo, hc7⟩, hf7, hl7, hnew⟩ := hP.put
      have HNEW2 := Lib.hid hnew
      have KG8 := Lib.hid (hS7.g.other (k := ab) c (.slice qz nz cz) HGA.out)
      clear hk7 hS7 hP hnew SA0
      refine wpAny_ready (rs := [18]) (by kernel_rfl) (by simp) (AllReady.cons rfl (fun K hK => ?_) AllReady.nil)
      go_simp
      refine hK _ _ ?_
      clear hK K
      refine wpAny_done (by kernel_rfl) ?_ _
      clear hc7 hf7 hl7
      go_wp2_with fail
      go_roundw
      case rel => exact ⟨k + 1, by omega, by go_num, HNEW2.out⟩
      case measure => simp [intOf]; omega
    · obtain rfl : k = E.length := by omega
      have hz : (zE E).length = E.length := zE_len E
      obtain ⟨us, h1, h2, h3, h4⟩ := hat.rows
      have hkp := hat.kp
      have hlo := HLO.out
      have hpb := HPB.out
      have HWP : Hid (WebPost P w N E S D (.slice eq0 E.length ec0) (.slice fq fl fc) (.returned (pt pb)) wr) := Lib.hid ⟨pb, ab, us, _, _, rfl, ⟨hkp.blk KP.out (by omega), HP.out _ hpb.1, HE.out.below hbw, HEA.out, h1, HP.out _ hlo.1, h2, fun i u hu => ⟨ints_of_owns (h3 i u hu) (by have := atTo_len E i E.length; show (atTo E E.length i).length ≤ _; omega), own_av (h3 i u hu) (fun g hg => HP.out g (by omega))⟩, bools_of_blk (hkp.blk KSB2.out HNE.out.1) markL_len (by omega), Av.at (HP.out _ hlo.2.1), bools_of_blk (hkp.blk KDB2.out HNE.out.2) markL_len (by omega), Av.at (HP.out _ hlo.2.2), markL_len, markL_len, HEIN.out, hN, hen⟩, hpb.1, hlo.1, hbw⟩
      clear hat h1 h2 h3 h4 hkp hlo hpb hbw AT0 hz
      go_wp2_with fail
      go_ret
      exact HWP.out
end
end Go.Proofs.YtleheaffipokfaaDoor
