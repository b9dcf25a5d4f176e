/-
  The law HeapSorts: whatever the keys and costs, it answers true, and nothing that was there has turned.
-/
import Derived.Test.YtmbeelakkiodaaaSort7
namespace Go.Proofs.Ytmbeelakkiodaaa
open Go.ChangeShapes Go.WideShapes Go.ChangeAt Go.RowKit

theorem sortB {w0 w : World} {p bl bi j : Nat} {I : List Bool} {L : List Int} {m m' : Nat → Option Int} {dn : Nat → Bool} {s : Unit} (h : GG.OneW j (fun w' => SortH w0 w' p bl bi I L m) (fun w' => SortH w0 w' p bl bi I L m') dn s w) : ∃ m, SortH w0 w p bl bi I L m :=
  h.both.elim (fun h => ⟨_, h⟩) (fun h => ⟨_, h⟩)
theorem sortPut {w0 w : World} {p bl bi : Nat} {I : List Bool} {L : List Int} {m m' : Nat → Option Int} {dn : Nat → Bool} {s : Unit} (h : SortH w0 w p bl bi I L m) (xn : Nat) (y : Int) (k0 : -9223372036854775808 ≤ (xn : Int)) (k1 : (xn : Int) ≤ 9223372036854775807) (c0 : -9223372036854775808 ≤ y) (c1 : y ≤ 9223372036854775807) {B : Bool} (hB : putB 256 m xn y = B) (hM : putM 256 m xn y = m') :
    Calls Try.prog 10 #[hp p, .int .i64 xn, .int .i64 y] w fun e w2 => ∃ s' : Unit, e = .returned (.bool B) ∧ GG.OneW 6 (fun w' => SortH w0 w' p bl bi I L m) (fun w' => SortH w0 w' p bl bi I L m') (GG.doneG dn 6) s' w2 ∧ GG.RlW s w s' w2 ∧ w.heap.size ≤ w2.heap.size := by
  subst hB; subst hM
  exact (h.put xn y k0 k1 c0 c1).mono fun _ _ ⟨a1, a2, a3⟩ => ⟨(), a1, GG.OneW.put a2, trivial, a3⟩
set_option maxHeartbeats 16000000 in
set_option maxRecDepth 100000 in
theorem sorts_walk (v : Value) (l : List Int) (u : Value) (c : List Int) (w : World) (hv : Nums .u8 w v l) (hin : InU8 l) (hu : Nums .i64 w u c) (hic : In64 c) :
    Calls Try.prog 4 #[v, u] w fun e w' => e = .returned (.bool true) ∧ Below w.heap.size w w' := by
  obtain ⟨qv, cv, rfl⟩ := hv.shape
  obtain ⟨qu, cu, rfl⟩ := hu.shape
  have HV := Lib.hid hv
  have HIN := Lib.hid hin
  have HU := Lib.hid hu
  have HIC := Lib.hid hic
  have hll := hv.len
  have hlc := hu.len
  clear hv hin hu hic
  by_cases hbig : 200 < l.length ∨ c.length < l.length
  · have hor : decide ((200 : Int) < (l.length : Int)) = true ∨ (¬ (200 : Int) < (l.length : Int) ∧ decide (c.length < l.length) = true) := by
      by_cases e : 200 < l.length
      · exact Or.inl (decide_eq_true (by omega))
      · exact Or.inr ⟨by omega, decide_eq_true (by omega)⟩
    clear hbig
    rcases hor with hor | ⟨hor, hor2⟩
    all_goals
      go_enter Try.func4, Try.ntmps4
      go_wp2_with fail
      refine (known7 _).mono ?_
      rintro e w1 ⟨rfl, hb⟩
      go_wp2_with fail
      go_ret
      exact ⟨rfl, hb⟩
  · have h200 : ¬ (200 : Int) < (l.length : Int) := by omega
    have hcl : ¬ c.length < l.length := fun e => hbig (Or.inr e)
    clear hbig
    go_enter Try.func4, Try.ntmps4
    go_wp2_with fail
    refine (known7 _).mono ?_
    rintro e w1 ⟨rfl, hb⟩
    have HB := Lib.hid hb
    clear hb
    go_wp2_with fail
    refine (h1new 256 w w1 HB.out (by decide) (by decide)).mono ?_
    rintro e w2 ⟨p, rfl, h⟩
    have h256 : keysN 256 = 256 := rfl
    rw [h256] at h
    have hz1 := zeroL w2
    have hz2 := zeroI (w2.alloc (.cells zL 37))
    obtain ⟨w3, hw3⟩ := named ((w2.alloc (.cells zL 37)).alloc (.cells zI 38))
    have hb3 : Below w2.heap.size w2 w3 := by rw [hw3]; exact ((Below.refl _ _).alloc (Nat.le_refl _) _).alloc (by simp) _
    have hl3 : Blk w3 w2.heap.size zL 37 := by rw [hw3]; exact (Blk.new _ _ _ _ rfl).old _
    have hi3 : Blk w3 (w2.heap.size + 1) zI 38 := by rw [hw3]; exact Blk.new _ _ _ _ (by simp)
    have hs2 : w3.heap.size = w2.heap.size + 2 := by rw [hw3]; simp
    have H : Hid (SortH w w3 p w2.heap.size (w2.heap.size + 1) (List.replicate 256 false) (List.replicate 256 0) (docM (List.replicate 256 false) (List.replicate 256 0))) := by
      rw [docM_new]
      refine Lib.hid ⟨⟨h.b.trans (hb3.mono h.b.size), fun b hx => by rcases hx with rfl | rfl <;> omega, fun b => w.heap.size ≤ b ∧ b < w2.heap.size, (h.h.mono fun b hl hs => ⟨hs, hl⟩).old hb3, fun b hs => hs.1, fun b hs hx => by have := hs.2; rcases hx with rfl | rfl <;> omega⟩, hl3, hi3, List.length_replicate, List.length_replicate, h.b.size, Nat.le_trans h.b.size (by omega)⟩
    have HW3 := Lib.hid hw3.symm
    clear h hb3 hl3 hi3 hs2 hw3 h256
    go_wp2_with fail
    rw [HW3.out]
    clear hz1 hz2 HW3
    go_loopw [8, 9] (fun vl vi wr => FillRel w p w2.heap.size (w2.heap.size + 1) l.length vl vi wr) (fun _ vi _ => l.length - (intOf vi).toNat)
    case atStart => exact ⟨0, _, _, Nat.zero_le _, rfl, by rw [docM_new, cnt_none]; rfl, by rw [docM_new, cnt_none]; exact Nat.zero_le _, H.out⟩
    case round =>
      obtain ⟨k, I, L, hk, rfl, rfl, hqk, h⟩ := hrel
      clear H
      obtain ⟨wo, rfl⟩ : ∃ wo : World, wo = wr := ⟨_, rfl⟩
      by_cases hlt' : k < l.length
      · obtain ⟨Q, hQ⟩ : ∃ Q, cnt (docM I L) 256 = Q := ⟨_, rfl⟩
        rw [hQ] at hqk ⊢
        have hq200 : (Q : Int) ≤ 200 := by omega
        have HQ := Lib.hid hQ
        clear hQ
        obtain ⟨x, hx⟩ : ∃ x, l[k]? = some x := ⟨_, List.getElem?_eq_getElem hlt'⟩
        obtain ⟨y, hy⟩ : ∃ y, c[k]? = some y := ⟨_, List.getElem?_eq_getElem (by omega)⟩
        obtain ⟨x0, x1⟩ := HIN.out x (List.mem_of_getElem? hx)
        obtain ⟨y00, y01⟩ := HIC.out y (List.mem_of_getElem? hy)
        obtain ⟨xn, rfl⟩ : ∃ xn : Nat, x = xn := ⟨x.toNat, by omega⟩
        obtain ⟨b1, o1, rfl, z0, -, -⟩ := HV.out.at hx
        obtain ⟨b2, o2, rfl, z1, -, -⟩ := HU.out.at hy
        have Z0 := Lib.hid z0
        have Z1 := Lib.hid z1
        have H0_ := Lib.hid h
        have hki : (k : Int) < (l.length : Int) := by omega
        have hkc : (k : Int) < (c.length : Int) := by omega
        have hxn : xn < 256 := by omega
        have kb0 : -9223372036854775808 ≤ (xn : Int) := by omega
        have kb1 : (xn : Int) ≤ 9223372036854775807 := by omega
        have hxi : (xn : Int) < 256 := by omega
        have hwr : IntKind.i64.wrap (xn : Int) = (xn : Int) := IntWalk.i64_in _ (by omega)
        have hl0 := hld_lo y
        have hl1 := hld_hi y
        clear h z0 z1 hx hy
        have H0 := H0_
        have y0 := keep H0.out.h.b Z0.out
        have y1 := keep H0.out.h.b Z1.out
        go_wp2_with fail
        clear y0 y1
        have hGS : Grows (fun w' => Below wo.heap.size wo w') := Grows.below wo
        refine' wp_growL _ (fun w' => Below wo.heap.size wo w') [[], [], [0, 1], [2], [3], [], [], [5, 6], [7], [8], [4], [9]] (Fact.lit _ :: Fact.lit _ :: Fact.lit _ :: Fact.lit _ :: Fact.lit _ :: Fact.lit _ :: Fact.lit _ :: Fact.lit _ :: Fact.lit _ :: Fact.lit _ :: Fact.lit _ :: Fact.lit _ :: []) (by kernel_rfl) rfl (by kernel_rfl) (Below.refl _ _).drew ?seqs14
        case' seqs14 => skip
        iterate 9 ((first | (apply grow_skip; (case hf => rfl); (case hw => rfl)) | (apply grow_lit; (case hf => rfl); (case hw => rfl); (case hrun => (intro w' hS H; clear H; (have y0 := keep (H0.out.h.b.trans (hS.mono H0.out.h.b.size)) Z0.out); (have y1 := keep (H0.out.h.b.trans (hS.mono H0.out.h.b.size)) Z1.out); clear hS; go_simp; first | done | exact rfl)))); (case hc => (simp only [Act.put, List.setIfInBounds_toArray, List.set_cons_zero, List.set_cons_succ]; first | done | exact rfl)); (try (case hj => rfl)))
        (refine' grow_call (u := .int .i64 (hld y)) rfl Try.func16 (by kernel_rfl) rfl hGS rfl ?wt1 ?run1 ?put1 ?next1; (case wt1 => rfl); (case run1 => (intro w' hS H; exact (rheld_any y w' y00 y01).mono (fun e w2 h => ⟨h.1, h.2 ▸ Below.refl _ _⟩))); (case put1 => (simp only [Act.put, List.setIfInBounds_toArray, List.set_cons_zero, List.set_cons_succ]; first | done | exact rfl)); (case' next1 => skip))
        iterate 2 ((first | (apply grow_skip; (case hf => rfl); (case hw => rfl)) | (apply grow_lit; (case hf => rfl); (case hw => rfl); (case hrun => (intro w' hS H; clear H; (have y0 := keep (H0.out.h.b.trans (hS.mono H0.out.h.b.size)) Z0.out); (have y1 := keep (H0.out.h.b.trans (hS.mono H0.out.h.b.size)) Z1.out); clear hS; go_simp; first | done | exact rfl)))); (case hc => (simp only [Act.put, List.setIfInBounds_toArray, List.set_cons_zero, List.set_cons_succ]; first | done | exact rfl)); (try (case hj => rfl)))
        intro W1 hb1 _
        have H0 := Lib.hid (H0_.out.old hb1)
        clear hb1 hGS H0_
        obtain ⟨b, hI⟩ : ∃ b, I[xn]? = some b := ⟨_, List.getElem?_eq_getElem (by rw [H0.out.il]; exact hxn)⟩
        obtain ⟨d, hL⟩ : ∃ d, L[xn]? = some d := ⟨_, List.getElem?_eq_getElem (by rw [H0.out.ll]; exact hxn)⟩
        go_wp2_with fail
        cases b with
        | false =>
          obtain ⟨hB, hM, hC⟩ := sort_new hxn H0.out.il H0.out.ll hI (c := y)
          have HBB := Lib.hid hB
          have HMM := Lib.hid hM
          have HCC := Lib.hid hC
          have HI := Lib.hid hI
          have HL := Lib.hid hL
          clear hB hM hC hI hL
          have HS0 : Hid (GG.OneW 6 (fun w' => SortH w w' p w2.heap.size (w2.heap.size + 1) I L (docM I L)) (fun w' => SortH w w' p w2.heap.size (w2.heap.size + 1) I L (docM (I.set xn true) (L.set xn (hld y)))) (fun _ => false) () W1.drew) := Lib.hid (GG.OneW.start (H0.out.old (Below.refl _ _).drew))
          refine' GG.wp_growL _ (GG.OneW 6 (fun w' => SortH w w' p w2.heap.size (w2.heap.size + 1) I L (docM I L)) (fun w' => SortH w w' p w2.heap.size (w2.heap.size + 1) I L (docM (I.set xn true) (L.set xn (hld y))))) [[], [], [], [], [2, 3], [2, 3, 4], [0, 1, 2, 3, 4, 5], [], [7], [7, 8], [7, 8, 9], [0, 1, 2, 3, 4, 5, 6, 7, 8, 9, 10], [0, 1, 2, 3, 4, 5, 6, 7, 8, 9, 10, 11], [0, 1, 2, 3, 4, 5, 6, 7, 8, 9, 10, 11], [0, 1, 2, 3, 4, 5, 6, 7, 8, 9, 10, 11, 13], [0, 1, 2, 3, 4, 5, 6, 7, 8, 9, 10, 11, 13, 14], [0, 1, 2, 3, 4, 5, 6, 7, 8, 9, 10, 11, 12, 13, 14, 15], [0, 1, 2, 3, 4, 5, 6, 7, 8, 9, 10, 11, 12, 13, 14, 15, 16], [0, 1, 2, 3, 4, 5, 6, 7, 8, 9, 10, 11, 12, 13, 14, 15, 16, 17]] (GG.Fact.lit (Rl := GG.RlW) _ :: GG.Fact.lit (Rl := GG.RlW) _ :: GG.Fact.lit (Rl := GG.RlW) _ :: GG.Fact.lit (Rl := GG.RlW) _ :: GG.Fact.lit (Rl := GG.RlW) _ :: GG.Fact.lit (Rl := GG.RlW) _ :: GG.Fact.lit (Rl := GG.RlW) _ :: GG.Fact.lit (Rl := GG.RlW) _ :: GG.Fact.lit (Rl := GG.RlW) _ :: GG.Fact.lit (Rl := GG.RlW) _ :: GG.Fact.lit (Rl := GG.RlW) _ :: GG.Fact.lit (Rl := GG.RlW) _ :: GG.Fact.lit (Rl := GG.RlW) _ :: GG.Fact.lit (Rl := GG.RlW) _ :: GG.Fact.lit (Rl := GG.RlW) _ :: GG.Fact.lit (Rl := GG.RlW) _ :: GG.Fact.lit (Rl := GG.RlW) _ :: GG.Fact.lit (Rl := GG.RlW) _ :: GG.Fact.lit (Rl := GG.RlW) _ :: []) (by kernel_rfl) rfl (by kernel_rfl) (()) (HS0.out) ?seqwa
          case' seqwa => skip
          (refine' GG.grow_lit (GG.OneW.still (by decide)) rfl ?wtwa0 ?runwa0 ?putwa0 ?nextwa0; (case wtwa0 => rfl); (case runwa0 => (intro w' hS; (obtain ⟨dn, s, hS⟩ := hS); (obtain ⟨_, hq⟩ := sortB hS); (have y0 := keep hq.h.b Z0.out); (have y1 := keep hq.h.b Z1.out); (have q0 := (hq.ic HI.out).1); (have q1 := (hq.lc HL.out).1); clear hS hq; go_simp; first | done | exact rfl)); (case putwa0 => (first | (simp only [Act.put, List.setIfInBounds_toArray, List.set_cons_zero, List.set_cons_succ]; first | done | exact rfl) | rfl)); (case' nextwa0 => skip))
          (refine' GG.grow_lit (GG.OneW.still (by decide)) rfl ?wtwa1 ?runwa1 ?putwa1 ?nextwa1; (case wtwa1 => rfl); (case runwa1 => (intro w' hS; (obtain ⟨dn, s, hS⟩ := hS); (obtain ⟨_, hq⟩ := sortB hS); (have y0 := keep hq.h.b Z0.out); (have y1 := keep hq.h.b Z1.out); (have q0 := (hq.ic HI.out).1); (have q1 := (hq.lc HL.out).1); clear hS hq; go_simp; first | done | exact rfl)); (case putwa1 => (first | (simp only [Act.put, List.setIfInBounds_toArray, List.set_cons_zero, List.set_cons_succ]; first | done | exact rfl) | rfl)); (case' nextwa1 => skip))
          (refine' GG.grow_lit (GG.OneW.still (by decide)) rfl ?wtwa2 ?runwa2 ?putwa2 ?nextwa2; (case wtwa2 => rfl); (case runwa2 => (intro w' hS; (obtain ⟨dn, s, hS⟩ := hS); (obtain ⟨_, hq⟩ := sortB hS); (have y0 := keep hq.h.b Z0.out); (have y1 := keep hq.h.b Z1.out); (have q0 := (hq.ic HI.out).1); (have q1 := (hq.lc HL.out).1); clear hS hq; go_simp; first | done | exact rfl)); (case putwa2 => (first | (simp only [Act.put, List.setIfInBounds_toArray, List.set_cons_zero, List.set_cons_succ]; first | done | exact rfl) | rfl)); (case' nextwa2 => skip))
          (refine' GG.grow_lit (GG.OneW.still (by decide)) rfl ?wtwa3 ?runwa3 ?putwa3 ?nextwa3; (case wtwa3 => rfl); (case runwa3 => (intro w' hS; (obtain ⟨dn, s, hS⟩ := hS); (obtain ⟨_, hq⟩ := sortB hS); (have y0 := keep hq.h.b Z0.out); (have y1 := keep hq.h.b Z1.out); (have q0 := (hq.ic HI.out).1); (have q1 := (hq.lc HL.out).1); clear hS hq; go_simp; first | done | exact rfl)); (case putwa3 => (first | (simp only [Act.put, List.setIfInBounds_toArray, List.set_cons_zero, List.set_cons_succ]; first | done | exact rfl) | rfl)); (case' nextwa3 => skip))
          (refine' GG.grow_lit (GG.OneW.still (by decide)) rfl ?wtwa4 ?runwa4 ?putwa4 ?nextwa4; (case wtwa4 => rfl); (case runwa4 => (intro w' hS; (obtain ⟨dn, s, hS⟩ := hS); (obtain ⟨_, hq⟩ := sortB hS); (have y0 := keep hq.h.b Z0.out); (have y1 := keep hq.h.b Z1.out); (have q0 := (hq.ic HI.out).1); (have q1 := (hq.lc HL.out).1); clear hS hq; go_simp; first | done | exact rfl)); (case putwa4 => (first | (simp only [Act.put, List.setIfInBounds_toArray, List.set_cons_zero, List.set_cons_succ]; first | done | exact rfl) | rfl)); (case' nextwa4 => skip))
          (refine' GG.grow_lit (GG.OneW.still (by decide)) rfl ?wtwa5 ?runwa5 ?putwa5 ?nextwa5; (case wtwa5 => rfl); (case runwa5 => (intro w' hS; (obtain ⟨dn, s, hS⟩ := hS); (obtain ⟨_, hq⟩ := sortB hS); (have y0 := keep hq.h.b Z0.out); (have y1 := keep hq.h.b Z1.out); (have q0 := (hq.ic HI.out).1); (have q1 := (hq.lc HL.out).1); clear hS hq; go_simp; first | done | exact rfl)); (case putwa5 => (first | (simp only [Act.put, List.setIfInBounds_toArray, List.set_cons_zero, List.set_cons_succ]; first | done | exact rfl) | rfl)); (case' nextwa5 => skip))
          (refine' GG.grow_lit_call (u := .bool true) rfl Try.func10 (by kernel_rfl) rfl rfl ?wtwa6 ?runwa6 ?putwa6 ?nextwa6; (case wtwa6 => rfl); (case runwa6 => (intro dn s w' hS hd H; exact sortPut (hS.g0 hd) xn y kb0 kb1 y00 y01 HBB.out HMM.out)); (case putwa6 => (first | (simp only [Act.put, List.setIfInBounds_toArray, List.set_cons_zero, List.set_cons_succ]; first | done | exact rfl) | rfl)); (case' nextwa6 => skip))
          (refine' GG.grow_lit (GG.OneW.still (by decide)) rfl ?wtwa7 ?runwa7 ?putwa7 ?nextwa7; (case wtwa7 => rfl); (case runwa7 => (intro w' hS; (obtain ⟨dn, s, hS⟩ := hS); (obtain ⟨_, hq⟩ := sortB hS); (have y0 := keep hq.h.b Z0.out); (have y1 := keep hq.h.b Z1.out); (have q0 := (hq.ic HI.out).1); (have q1 := (hq.lc HL.out).1); clear hS hq; go_simp; first | done | exact rfl)); (case putwa7 => (first | (simp only [Act.put, List.setIfInBounds_toArray, List.set_cons_zero, List.set_cons_succ]; first | done | exact rfl) | rfl)); (case' nextwa7 => skip))
          (refine' GG.grow_lit (GG.OneW.still (by decide)) rfl ?wtwa8 ?runwa8 ?putwa8 ?nextwa8; (case wtwa8 => rfl); (case runwa8 => (intro w' hS; (obtain ⟨dn, s, hS⟩ := hS); (obtain ⟨_, hq⟩ := sortB hS); (have y0 := keep hq.h.b Z0.out); (have y1 := keep hq.h.b Z1.out); (have q0 := (hq.ic HI.out).1); (have q1 := (hq.lc HL.out).1); clear hS hq; go_simp; first | done | exact rfl)); (case putwa8 => (first | (simp only [Act.put, List.setIfInBounds_toArray, List.set_cons_zero, List.set_cons_succ]; first | done | exact rfl) | rfl)); (case' nextwa8 => skip))
          (refine' GG.grow_lit (GG.OneW.still (by decide)) rfl ?wtwa9 ?runwa9 ?putwa9 ?nextwa9; (case wtwa9 => rfl); (case runwa9 => (intro w' hS; (obtain ⟨dn, s, hS⟩ := hS); (obtain ⟨_, hq⟩ := sortB hS); (have y0 := keep hq.h.b Z0.out); (have y1 := keep hq.h.b Z1.out); (have q0 := (hq.ic HI.out).1); (have q1 := (hq.lc HL.out).1); clear hS hq; go_simp; first | done | exact rfl)); (case putwa9 => (first | (simp only [Act.put, List.setIfInBounds_toArray, List.set_cons_zero, List.set_cons_succ]; first | done | exact rfl) | rfl)); (case' nextwa9 => skip))
          (refine' GG.grow_lit (GG.OneW.still (by decide)) rfl ?wtwa10 ?runwa10 ?putwa10 ?nextwa10; (case wtwa10 => rfl); (case runwa10 => (intro w' hS; (obtain ⟨dn, s, hS⟩ := hS); (obtain ⟨_, hq⟩ := sortB hS); (have y0 := keep hq.h.b Z0.out); (have y1 := keep hq.h.b Z1.out); (have q0 := (hq.ic HI.out).1); (have q1 := (hq.lc HL.out).1); clear hS hq; go_simp; first | done | exact rfl)); (case putwa10 => (first | (simp only [Act.put, List.setIfInBounds_toArray, List.set_cons_zero, List.set_cons_succ]; first | done | exact rfl) | rfl)); (case' nextwa10 => skip))
          (refine' GG.grow_lit (GG.OneW.still (by decide)) rfl ?wtwa11 ?runwa11 ?putwa11 ?nextwa11; (case wtwa11 => rfl); (case runwa11 => (intro w' hS; (obtain ⟨dn, s, hS⟩ := hS); (obtain ⟨_, hq⟩ := sortB hS); (have y0 := keep hq.h.b Z0.out); (have y1 := keep hq.h.b Z1.out); (have q0 := (hq.ic HI.out).1); (have q1 := (hq.lc HL.out).1); clear hS hq; go_simp; first | done | exact rfl)); (case putwa11 => (first | (simp only [Act.put, List.setIfInBounds_toArray, List.set_cons_zero, List.set_cons_succ]; first | done | exact rfl) | rfl)); (case' nextwa11 => skip))
          (refine' GG.grow_skip (GG.OneW.still (by decide)) rfl ?wtwa12 ?putwa12 ?nextwa12; (case wtwa12 => rfl); (case putwa12 => (first | (simp only [Act.put, List.setIfInBounds_toArray, List.set_cons_zero, List.set_cons_succ]; first | done | exact rfl) | rfl)); (case' nextwa12 => skip))
          (refine' GG.grow_skip (GG.OneW.still (by decide)) rfl ?wtwa13 ?putwa13 ?nextwa13; (case wtwa13 => rfl); (case putwa13 => (first | (simp only [Act.put, List.setIfInBounds_toArray, List.set_cons_zero, List.set_cons_succ]; first | done | exact rfl) | rfl)); (case' nextwa13 => skip))
          (refine' GG.grow_skip (GG.OneW.still (by decide)) rfl ?wtwa14 ?putwa14 ?nextwa14; (case wtwa14 => rfl); (case putwa14 => (first | (simp only [Act.put, List.setIfInBounds_toArray, List.set_cons_zero, List.set_cons_succ]; first | done | exact rfl) | rfl)); (case' nextwa14 => skip))
          (refine' GG.grow_skip (GG.OneW.still (by decide)) rfl ?wtwa15 ?putwa15 ?nextwa15; (case wtwa15 => rfl); (case putwa15 => (first | (simp only [Act.put, List.setIfInBounds_toArray, List.set_cons_zero, List.set_cons_succ]; first | done | exact rfl) | rfl)); (case' nextwa15 => skip))
          (refine' GG.grow_skip (GG.OneW.still (by decide)) rfl ?wtwa16 ?putwa16 ?nextwa16; (case wtwa16 => rfl); (case putwa16 => (first | (simp only [Act.put, List.setIfInBounds_toArray, List.set_cons_zero, List.set_cons_succ]; first | done | exact rfl) | rfl)); (case' nextwa16 => skip))
          (refine' GG.grow_lit (GG.OneW.still (by decide)) rfl ?wtwa17 ?runwa17 ?putwa17 ?nextwa17; (case wtwa17 => rfl); (case runwa17 => (intro w' hS; (obtain ⟨dn, s, hS⟩ := hS); (obtain ⟨_, hq⟩ := sortB hS); (have y0 := keep hq.h.b Z0.out); (have y1 := keep hq.h.b Z1.out); (have q0 := (hq.ic HI.out).1); (have q1 := (hq.lc HL.out).1); clear hS hq; go_simp; first | done | exact rfl)); (case putwa17 => (first | (simp only [Act.put, List.setIfInBounds_toArray, List.set_cons_zero, List.set_cons_succ]; first | done | exact rfl) | rfl)); (case' nextwa17 => skip))
          (refine' GG.grow_lit (GG.OneW.still (by decide)) rfl ?wtwa18 ?runwa18 ?putwa18 ?nextwa18; (case wtwa18 => rfl); (case runwa18 => (intro w' hS; (obtain ⟨dn, s, hS⟩ := hS); (obtain ⟨_, hq⟩ := sortB hS); (have y0 := keep hq.h.b Z0.out); (have y1 := keep hq.h.b Z1.out); (have q0 := (hq.ic HI.out).1); (have q1 := (hq.lc HL.out).1); clear hS hq; go_simp; first | done | exact rfl)); (case putwa18 => (first | (simp only [Act.put, List.setIfInBounds_toArray, List.set_cons_zero, List.set_cons_succ]; first | done | exact rfl) | rfl)); (case' nextwa18 => skip))
          intro dn s W2 hS hdn _
          have H2_ := Lib.hid (hS.g1 (hdn 6 (by decide)))
          clear hS hdn HS0 H0
          obtain ⟨q0, q00⟩ := H2_.out.ic HI.out
          obtain ⟨q1, q11⟩ := H2_.out.lc HL.out
          have h3 := (H2_.out.setL xn (hld y)).setI xn true
          obtain ⟨W3, hW3⟩ := named ((W2.setCell ⟨w2.heap.size, xn, none⟩ (.int .i64 (hld y))).setCell ⟨w2.heap.size + 1, xn, none⟩ (.bool true))
          rw [← hW3] at h3
          have HW3 := Lib.hid hW3.symm
          have H3 := Lib.hid h3
          clear h3 hW3
          go_wp2_with fail
          rw [HW3.out]
          clear q0 q00 q1 q11
          go_roundw
          case rel => exact ⟨k + 1, (I.set xn true), (L.set xn (hld y)), hlt', by go_num, by rw [HCC.out, HQ.out]; go_num, by rw [HCC.out, HQ.out]; omega, H3.out⟩
          case measure => simp [intOf]; omega
        | true =>
          by_cases hlt : hld y < d
          · skip
            obtain ⟨hB, hM, hC⟩ := sort_low hxn H0.out.il H0.out.ll hI hL hlt
            have HBB := Lib.hid hB
            have HMM := Lib.hid hM
            have HCC := Lib.hid hC
            have HI := Lib.hid hI
            have HL := Lib.hid hL
            have dlt : decide (hld y < d) = true := by simpa using hlt
            clear hB hM hC hI hL hlt
            have HS0 : Hid (GG.OneW 6 (fun w' => SortH w w' p w2.heap.size (w2.heap.size + 1) I L (docM I L)) (fun w' => SortH w w' p w2.heap.size (w2.heap.size + 1) I L (docM (I.set xn true) (L.set xn (hld y)))) (fun _ => false) () W1.drew) := Lib.hid (GG.OneW.start (H0.out.old (Below.refl _ _).drew))
            refine' GG.wp_growL _ (GG.OneW 6 (fun w' => SortH w w' p w2.heap.size (w2.heap.size + 1) I L (docM I L)) (fun w' => SortH w w' p w2.heap.size (w2.heap.size + 1) I L (docM (I.set xn true) (L.set xn (hld y))))) [[], [], [], [], [2, 3], [2, 3, 4], [0, 1, 2, 3, 4, 5], [], [7], [7, 8], [7, 8, 9], [0, 1, 2, 3, 4, 5, 6, 7, 8, 9, 10], [0, 1, 2, 3, 4, 5, 6, 7, 8, 9, 10, 11], [0, 1, 2, 3, 4, 5, 6, 7, 8, 9, 10, 11], [0, 1, 2, 3, 4, 5, 6, 7, 8, 9, 10, 11, 13], [0, 1, 2, 3, 4, 5, 6, 7, 8, 9, 10, 11, 13, 14], [0, 1, 2, 3, 4, 5, 6, 7, 8, 9, 10, 11, 12, 13, 14, 15], [0, 1, 2, 3, 4, 5, 6, 7, 8, 9, 10, 11, 12, 13, 14, 15, 16], [0, 1, 2, 3, 4, 5, 6, 7, 8, 9, 10, 11, 12, 13, 14, 15, 16, 17]] (GG.Fact.lit (Rl := GG.RlW) _ :: GG.Fact.lit (Rl := GG.RlW) _ :: GG.Fact.lit (Rl := GG.RlW) _ :: GG.Fact.lit (Rl := GG.RlW) _ :: GG.Fact.lit (Rl := GG.RlW) _ :: GG.Fact.lit (Rl := GG.RlW) _ :: GG.Fact.lit (Rl := GG.RlW) _ :: GG.Fact.lit (Rl := GG.RlW) _ :: GG.Fact.lit (Rl := GG.RlW) _ :: GG.Fact.lit (Rl := GG.RlW) _ :: GG.Fact.lit (Rl := GG.RlW) _ :: GG.Fact.lit (Rl := GG.RlW) _ :: GG.Fact.lit (Rl := GG.RlW) _ :: GG.Fact.lit (Rl := GG.RlW) _ :: GG.Fact.lit (Rl := GG.RlW) _ :: GG.Fact.lit (Rl := GG.RlW) _ :: GG.Fact.lit (Rl := GG.RlW) _ :: GG.Fact.lit (Rl := GG.RlW) _ :: GG.Fact.lit (Rl := GG.RlW) _ :: []) (by kernel_rfl) rfl (by kernel_rfl) (()) (HS0.out) ?seqwb
            case' seqwb => skip
            (refine' GG.grow_lit (GG.OneW.still (by decide)) rfl ?wtwb0 ?runwb0 ?putwb0 ?nextwb0; (case wtwb0 => rfl); (case runwb0 => (intro w' hS; (obtain ⟨dn, s, hS⟩ := hS); (obtain ⟨_, hq⟩ := sortB hS); (have y0 := keep hq.h.b Z0.out); (have y1 := keep hq.h.b Z1.out); (have q0 := (hq.ic HI.out).1); (have q1 := (hq.lc HL.out).1); clear hS hq; go_simp; first | done | exact rfl)); (case putwb0 => (first | (simp only [Act.put, List.setIfInBounds_toArray, List.set_cons_zero, List.set_cons_succ]; first | done | exact rfl) | rfl)); (case' nextwb0 => skip))
            (refine' GG.grow_lit (GG.OneW.still (by decide)) rfl ?wtwb1 ?runwb1 ?putwb1 ?nextwb1; (case wtwb1 => rfl); (case runwb1 => (intro w' hS; (obtain ⟨dn, s, hS⟩ := hS); (obtain ⟨_, hq⟩ := sortB hS); (have y0 := keep hq.h.b Z0.out); (have y1 := keep hq.h.b Z1.out); (have q0 := (hq.ic HI.out).1); (have q1 := (hq.lc HL.out).1); clear hS hq; go_simp; first | done | exact rfl)); (case putwb1 => (first | (simp only [Act.put, List.setIfInBounds_toArray, List.set_cons_zero, List.set_cons_succ]; first | done | exact rfl) | rfl)); (case' nextwb1 => skip))
            (refine' GG.grow_lit (GG.OneW.still (by decide)) rfl ?wtwb2 ?runwb2 ?putwb2 ?nextwb2; (case wtwb2 => rfl); (case runwb2 => (intro w' hS; (obtain ⟨dn, s, hS⟩ := hS); (obtain ⟨_, hq⟩ := sortB hS); (have y0 := keep hq.h.b Z0.out); (have y1 := keep hq.h.b Z1.out); (have q0 := (hq.ic HI.out).1); (have q1 := (hq.lc HL.out).1); clear hS hq; go_simp; first | done | exact rfl)); (case putwb2 => (first | (simp only [Act.put, List.setIfInBounds_toArray, List.set_cons_zero, List.set_cons_succ]; first | done | exact rfl) | rfl)); (case' nextwb2 => skip))
            (refine' GG.grow_lit (GG.OneW.still (by decide)) rfl ?wtwb3 ?runwb3 ?putwb3 ?nextwb3; (case wtwb3 => rfl); (case runwb3 => (intro w' hS; (obtain ⟨dn, s, hS⟩ := hS); (obtain ⟨_, hq⟩ := sortB hS); (have y0 := keep hq.h.b Z0.out); (have y1 := keep hq.h.b Z1.out); (have q0 := (hq.ic HI.out).1); (have q1 := (hq.lc HL.out).1); clear hS hq; go_simp; first | done | exact rfl)); (case putwb3 => (first | (simp only [Act.put, List.setIfInBounds_toArray, List.set_cons_zero, List.set_cons_succ]; first | done | exact rfl) | rfl)); (case' nextwb3 => skip))
            (refine' GG.grow_lit (GG.OneW.still (by decide)) rfl ?wtwb4 ?runwb4 ?putwb4 ?nextwb4; (case wtwb4 => rfl); (case runwb4 => (intro w' hS; (obtain ⟨dn, s, hS⟩ := hS); (obtain ⟨_, hq⟩ := sortB hS); (have y0 := keep hq.h.b Z0.out); (have y1 := keep hq.h.b Z1.out); (have q0 := (hq.ic HI.out).1); (have q1 := (hq.lc HL.out).1); clear hS hq; go_simp; first | done | exact rfl)); (case putwb4 => (first | (simp only [Act.put, List.setIfInBounds_toArray, List.set_cons_zero, List.set_cons_succ]; first | done | exact rfl) | rfl)); (case' nextwb4 => skip))
            (refine' GG.grow_lit (GG.OneW.still (by decide)) rfl ?wtwb5 ?runwb5 ?putwb5 ?nextwb5; (case wtwb5 => rfl); (case runwb5 => (intro w' hS; (obtain ⟨dn, s, hS⟩ := hS); (obtain ⟨_, hq⟩ := sortB hS); (have y0 := keep hq.h.b Z0.out); (have y1 := keep hq.h.b Z1.out); (have q0 := (hq.ic HI.out).1); (have q1 := (hq.lc HL.out).1); clear hS hq; go_simp; first | done | exact rfl)); (case putwb5 => (first | (simp only [Act.put, List.setIfInBounds_toArray, List.set_cons_zero, List.set_cons_succ]; first | done | exact rfl) | rfl)); (case' nextwb5 => skip))
            (refine' GG.grow_lit_call (u := .bool true) rfl Try.func10 (by kernel_rfl) rfl rfl ?wtwb6 ?runwb6 ?putwb6 ?nextwb6; (case wtwb6 => rfl); (case runwb6 => (intro dn s w' hS hd H; exact sortPut (hS.g0 hd) xn y kb0 kb1 y00 y01 HBB.out HMM.out)); (case putwb6 => (first | (simp only [Act.put, List.setIfInBounds_toArray, List.set_cons_zero, List.set_cons_succ]; first | done | exact rfl) | rfl)); (case' nextwb6 => skip))
            (refine' GG.grow_lit (GG.OneW.still (by decide)) rfl ?wtwb7 ?runwb7 ?putwb7 ?nextwb7; (case wtwb7 => rfl); (case runwb7 => (intro w' hS; (obtain ⟨dn, s, hS⟩ := hS); (obtain ⟨_, hq⟩ := sortB hS); (have y0 := keep hq.h.b Z0.out); (have y1 := keep hq.h.b Z1.out); (have q0 := (hq.ic HI.out).1); (have q1 := (hq.lc HL.out).1); clear hS hq; go_simp; first | done | exact rfl)); (case putwb7 => (first | (simp only [Act.put, List.setIfInBounds_toArray, List.set_cons_zero, List.set_cons_succ]; first | done | exact rfl) | rfl)); (case' nextwb7 => skip))
            (refine' GG.grow_lit (GG.OneW.still (by decide)) rfl ?wtwb8 ?runwb8 ?putwb8 ?nextwb8; (case wtwb8 => rfl); (case runwb8 => (intro w' hS; (obtain ⟨dn, s, hS⟩ := hS); (obtain ⟨_, hq⟩ := sortB hS); (have y0 := keep hq.h.b Z0.out); (have y1 := keep hq.h.b Z1.out); (have q0 := (hq.ic HI.out).1); (have q1 := (hq.lc HL.out).1); clear hS hq; go_simp; first | done | exact rfl)); (case putwb8 => (first | (simp only [Act.put, List.setIfInBounds_toArray, List.set_cons_zero, List.set_cons_succ]; first | done | exact rfl) | rfl)); (case' nextwb8 => skip))
            (refine' GG.grow_lit (GG.OneW.still (by decide)) rfl ?wtwb9 ?runwb9 ?putwb9 ?nextwb9; (case wtwb9 => rfl); (case runwb9 => (intro w' hS; (obtain ⟨dn, s, hS⟩ := hS); (obtain ⟨_, hq⟩ := sortB hS); (have y0 := keep hq.h.b Z0.out); (have y1 := keep hq.h.b Z1.out); (have q0 := (hq.ic HI.out).1); (have q1 := (hq.lc HL.out).1); clear hS hq; go_simp; first | done | exact rfl)); (case putwb9 => (first | (simp only [Act.put, List.setIfInBounds_toArray, List.set_cons_zero, List.set_cons_succ]; first | done | exact rfl) | rfl)); (case' nextwb9 => skip))
            (refine' GG.grow_lit (GG.OneW.still (by decide)) rfl ?wtwb10 ?runwb10 ?putwb10 ?nextwb10; (case wtwb10 => rfl); (case runwb10 => (intro w' hS; (obtain ⟨dn, s, hS⟩ := hS); (obtain ⟨_, hq⟩ := sortB hS); (have y0 := keep hq.h.b Z0.out); (have y1 := keep hq.h.b Z1.out); (have q0 := (hq.ic HI.out).1); (have q1 := (hq.lc HL.out).1); clear hS hq; go_simp; first | done | exact rfl)); (case putwb10 => (first | (simp only [Act.put, List.setIfInBounds_toArray, List.set_cons_zero, List.set_cons_succ]; first | done | exact rfl) | rfl)); (case' nextwb10 => skip))
            (refine' GG.grow_lit (GG.OneW.still (by decide)) rfl ?wtwb11 ?runwb11 ?putwb11 ?nextwb11; (case wtwb11 => rfl); (case runwb11 => (intro w' hS; (obtain ⟨dn, s, hS⟩ := hS); (obtain ⟨_, hq⟩ := sortB hS); (have y0 := keep hq.h.b Z0.out); (have y1 := keep hq.h.b Z1.out); (have q0 := (hq.ic HI.out).1); (have q1 := (hq.lc HL.out).1); clear hS hq; go_simp; first | done | exact rfl)); (case putwb11 => (first | (simp only [Act.put, List.setIfInBounds_toArray, List.set_cons_zero, List.set_cons_succ]; first | done | exact rfl) | rfl)); (case' nextwb11 => skip))
            (refine' GG.grow_lit (GG.OneW.still (by decide)) rfl ?wtwb12 ?runwb12 ?putwb12 ?nextwb12; (case wtwb12 => rfl); (case runwb12 => (intro w' hS; (obtain ⟨dn, s, hS⟩ := hS); (obtain ⟨_, hq⟩ := sortB hS); (have y0 := keep hq.h.b Z0.out); (have y1 := keep hq.h.b Z1.out); (have q0 := (hq.ic HI.out).1); (have q1 := (hq.lc HL.out).1); clear hS hq; go_simp; first | done | exact rfl)); (case putwb12 => (first | (simp only [Act.put, List.setIfInBounds_toArray, List.set_cons_zero, List.set_cons_succ]; first | done | exact rfl) | rfl)); (case' nextwb12 => skip))
            (refine' GG.grow_lit (GG.OneW.still (by decide)) rfl ?wtwb13 ?runwb13 ?putwb13 ?nextwb13; (case wtwb13 => rfl); (case runwb13 => (intro w' hS; (obtain ⟨dn, s, hS⟩ := hS); (obtain ⟨_, hq⟩ := sortB hS); (have y0 := keep hq.h.b Z0.out); (have y1 := keep hq.h.b Z1.out); (have q0 := (hq.ic HI.out).1); (have q1 := (hq.lc HL.out).1); clear hS hq; go_simp; first | done | exact rfl)); (case putwb13 => (first | (simp only [Act.put, List.setIfInBounds_toArray, List.set_cons_zero, List.set_cons_succ]; first | done | exact rfl) | rfl)); (case' nextwb13 => skip))
            (refine' GG.grow_lit (GG.OneW.still (by decide)) rfl ?wtwb14 ?runwb14 ?putwb14 ?nextwb14; (case wtwb14 => rfl); (case runwb14 => (intro w' hS; (obtain ⟨dn, s, hS⟩ := hS); (obtain ⟨_, hq⟩ := sortB hS); (have y0 := keep hq.h.b Z0.out); (have y1 := keep hq.h.b Z1.out); (have q0 := (hq.ic HI.out).1); (have q1 := (hq.lc HL.out).1); clear hS hq; go_simp; first | done | exact rfl)); (case putwb14 => (first | (simp only [Act.put, List.setIfInBounds_toArray, List.set_cons_zero, List.set_cons_succ]; first | done | exact rfl) | rfl)); (case' nextwb14 => skip))
            (refine' GG.grow_lit (GG.OneW.still (by decide)) rfl ?wtwb15 ?runwb15 ?putwb15 ?nextwb15; (case wtwb15 => rfl); (case runwb15 => (intro w' hS; (obtain ⟨dn, s, hS⟩ := hS); (obtain ⟨_, hq⟩ := sortB hS); (have y0 := keep hq.h.b Z0.out); (have y1 := keep hq.h.b Z1.out); (have q0 := (hq.ic HI.out).1); (have q1 := (hq.lc HL.out).1); clear hS hq; go_simp; first | done | exact rfl)); (case putwb15 => (first | (simp only [Act.put, List.setIfInBounds_toArray, List.set_cons_zero, List.set_cons_succ]; first | done | exact rfl) | rfl)); (case' nextwb15 => skip))
            (refine' GG.grow_lit (GG.OneW.still (by decide)) rfl ?wtwb16 ?runwb16 ?putwb16 ?nextwb16; (case wtwb16 => rfl); (case runwb16 => (intro w' hS; (obtain ⟨dn, s, hS⟩ := hS); (obtain ⟨_, hq⟩ := sortB hS); (have y0 := keep hq.h.b Z0.out); (have y1 := keep hq.h.b Z1.out); (have q0 := (hq.ic HI.out).1); (have q1 := (hq.lc HL.out).1); clear hS hq; go_simp; first | done | exact rfl)); (case putwb16 => (first | (simp only [Act.put, List.setIfInBounds_toArray, List.set_cons_zero, List.set_cons_succ]; first | done | exact rfl) | rfl)); (case' nextwb16 => skip))
            (refine' GG.grow_lit (GG.OneW.still (by decide)) rfl ?wtwb17 ?runwb17 ?putwb17 ?nextwb17; (case wtwb17 => rfl); (case runwb17 => (intro w' hS; (obtain ⟨dn, s, hS⟩ := hS); (obtain ⟨_, hq⟩ := sortB hS); (have y0 := keep hq.h.b Z0.out); (have y1 := keep hq.h.b Z1.out); (have q0 := (hq.ic HI.out).1); (have q1 := (hq.lc HL.out).1); clear hS hq; go_simp; first | done | exact rfl)); (case putwb17 => (first | (simp only [Act.put, List.setIfInBounds_toArray, List.set_cons_zero, List.set_cons_succ]; first | done | exact rfl) | rfl)); (case' nextwb17 => skip))
            (refine' GG.grow_lit (GG.OneW.still (by decide)) rfl ?wtwb18 ?runwb18 ?putwb18 ?nextwb18; (case wtwb18 => rfl); (case runwb18 => (intro w' hS; (obtain ⟨dn, s, hS⟩ := hS); (obtain ⟨_, hq⟩ := sortB hS); (have y0 := keep hq.h.b Z0.out); (have y1 := keep hq.h.b Z1.out); (have q0 := (hq.ic HI.out).1); (have q1 := (hq.lc HL.out).1); clear hS hq; go_simp; first | done | exact rfl)); (case putwb18 => (first | (simp only [Act.put, List.setIfInBounds_toArray, List.set_cons_zero, List.set_cons_succ]; first | done | exact rfl) | rfl)); (case' nextwb18 => skip))
            intro dn s W2 hS hdn _
            have H2_ := Lib.hid (hS.g1 (hdn 6 (by decide)))
            clear hS hdn HS0 H0
            obtain ⟨q0, q00⟩ := H2_.out.ic HI.out
            obtain ⟨q1, q11⟩ := H2_.out.lc HL.out
            have h3 := (H2_.out.setL xn (hld y)).setI xn true
            obtain ⟨W3, hW3⟩ := named ((W2.setCell ⟨w2.heap.size, xn, none⟩ (.int .i64 (hld y))).setCell ⟨w2.heap.size + 1, xn, none⟩ (.bool true))
            rw [← hW3] at h3
            have HW3 := Lib.hid hW3.symm
            have H3 := Lib.hid h3
            clear h3 hW3
            go_wp2_with fail
            rw [HW3.out]
            clear q0 q00 q1 q11
            go_roundw
            case rel => exact ⟨k + 1, (I.set xn true), (L.set xn (hld y)), hlt', by go_num, by rw [HCC.out, HQ.out], by rw [HCC.out, HQ.out]; omega, H3.out⟩
            case measure => simp [intOf]; omega
          · skip
            obtain ⟨hB, hM⟩ := sort_same hxn hI hL hlt
            have hC : cnt (docM (I.set xn true) L) 256 = cnt (docM I L) 256 := by rw [show I.set xn true = I from set_get hI]
            have HBB := Lib.hid hB
            have HMM := Lib.hid hM
            have HCC := Lib.hid hC
            have HI := Lib.hid hI
            have HL := Lib.hid hL
            have dlt : decide (hld y < d) = false := by simpa using hlt
            clear hB hM hC hI hL hlt
            have HS0 : Hid (GG.OneW 6 (fun w' => SortH w w' p w2.heap.size (w2.heap.size + 1) I L (docM I L)) (fun w' => SortH w w' p w2.heap.size (w2.heap.size + 1) I L (docM (I.set xn true) L)) (fun _ => false) () W1.drew) := Lib.hid (GG.OneW.start (H0.out.old (Below.refl _ _).drew))
            refine' GG.wp_growL _ (GG.OneW 6 (fun w' => SortH w w' p w2.heap.size (w2.heap.size + 1) I L (docM I L)) (fun w' => SortH w w' p w2.heap.size (w2.heap.size + 1) I L (docM (I.set xn true) L))) [[], [], [], [], [2, 3], [2, 3, 4], [0, 1, 2, 3, 4, 5], [], [7], [7, 8], [7, 8, 9], [0, 1, 2, 3, 4, 5, 6, 7, 8, 9, 10], [0, 1, 2, 3, 4, 5, 6, 7, 8, 9, 10, 11], [0, 1, 2, 3, 4, 5, 6, 7, 8, 9, 10, 11], [0, 1, 2, 3, 4, 5, 6, 7, 8, 9, 10, 11, 13], [0, 1, 2, 3, 4, 5, 6, 7, 8, 9, 10, 11, 13, 14], [0, 1, 2, 3, 4, 5, 6, 7, 8, 9, 10, 11, 12, 13, 14, 15], [0, 1, 2, 3, 4, 5, 6, 7, 8, 9, 10, 11, 12, 13, 14, 15, 16], [0, 1, 2, 3, 4, 5, 6, 7, 8, 9, 10, 11, 12, 13, 14, 15, 16, 17]] (GG.Fact.lit (Rl := GG.RlW) _ :: GG.Fact.lit (Rl := GG.RlW) _ :: GG.Fact.lit (Rl := GG.RlW) _ :: GG.Fact.lit (Rl := GG.RlW) _ :: GG.Fact.lit (Rl := GG.RlW) _ :: GG.Fact.lit (Rl := GG.RlW) _ :: GG.Fact.lit (Rl := GG.RlW) _ :: GG.Fact.lit (Rl := GG.RlW) _ :: GG.Fact.lit (Rl := GG.RlW) _ :: GG.Fact.lit (Rl := GG.RlW) _ :: GG.Fact.lit (Rl := GG.RlW) _ :: GG.Fact.lit (Rl := GG.RlW) _ :: GG.Fact.lit (Rl := GG.RlW) _ :: GG.Fact.lit (Rl := GG.RlW) _ :: GG.Fact.lit (Rl := GG.RlW) _ :: GG.Fact.lit (Rl := GG.RlW) _ :: GG.Fact.lit (Rl := GG.RlW) _ :: GG.Fact.lit (Rl := GG.RlW) _ :: GG.Fact.lit (Rl := GG.RlW) _ :: []) (by kernel_rfl) rfl (by kernel_rfl) (()) (HS0.out) ?seqwc
            case' seqwc => skip
            (refine' GG.grow_lit (GG.OneW.still (by decide)) rfl ?wtwc0 ?runwc0 ?putwc0 ?nextwc0; (case wtwc0 => rfl); (case runwc0 => (intro w' hS; (obtain ⟨dn, s, hS⟩ := hS); (obtain ⟨_, hq⟩ := sortB hS); (have y0 := keep hq.h.b Z0.out); (have y1 := keep hq.h.b Z1.out); (have q0 := (hq.ic HI.out).1); (have q1 := (hq.lc HL.out).1); clear hS hq; go_simp; first | done | exact rfl)); (case putwc0 => (first | (simp only [Act.put, List.setIfInBounds_toArray, List.set_cons_zero, List.set_cons_succ]; first | done | exact rfl) | rfl)); (case' nextwc0 => skip))
            (refine' GG.grow_lit (GG.OneW.still (by decide)) rfl ?wtwc1 ?runwc1 ?putwc1 ?nextwc1; (case wtwc1 => rfl); (case runwc1 => (intro w' hS; (obtain ⟨dn, s, hS⟩ := hS); (obtain ⟨_, hq⟩ := sortB hS); (have y0 := keep hq.h.b Z0.out); (have y1 := keep hq.h.b Z1.out); (have q0 := (hq.ic HI.out).1); (have q1 := (hq.lc HL.out).1); clear hS hq; go_simp; first | done | exact rfl)); (case putwc1 => (first | (simp only [Act.put, List.setIfInBounds_toArray, List.set_cons_zero, List.set_cons_succ]; first | done | exact rfl) | rfl)); (case' nextwc1 => skip))
            (refine' GG.grow_lit (GG.OneW.still (by decide)) rfl ?wtwc2 ?runwc2 ?putwc2 ?nextwc2; (case wtwc2 => rfl); (case runwc2 => (intro w' hS; (obtain ⟨dn, s, hS⟩ := hS); (obtain ⟨_, hq⟩ := sortB hS); (have y0 := keep hq.h.b Z0.out); (have y1 := keep hq.h.b Z1.out); (have q0 := (hq.ic HI.out).1); (have q1 := (hq.lc HL.out).1); clear hS hq; go_simp; first | done | exact rfl)); (case putwc2 => (first | (simp only [Act.put, List.setIfInBounds_toArray, List.set_cons_zero, List.set_cons_succ]; first | done | exact rfl) | rfl)); (case' nextwc2 => skip))
            (refine' GG.grow_lit (GG.OneW.still (by decide)) rfl ?wtwc3 ?runwc3 ?putwc3 ?nextwc3; (case wtwc3 => rfl); (case runwc3 => (intro w' hS; (obtain ⟨dn, s, hS⟩ := hS); (obtain ⟨_, hq⟩ := sortB hS); (have y0 := keep hq.h.b Z0.out); (have y1 := keep hq.h.b Z1.out); (have q0 := (hq.ic HI.out).1); (have q1 := (hq.lc HL.out).1); clear hS hq; go_simp; first | done | exact rfl)); (case putwc3 => (first | (simp only [Act.put, List.setIfInBounds_toArray, List.set_cons_zero, List.set_cons_succ]; first | done | exact rfl) | rfl)); (case' nextwc3 => skip))
            (refine' GG.grow_lit (GG.OneW.still (by decide)) rfl ?wtwc4 ?runwc4 ?putwc4 ?nextwc4; (case wtwc4 => rfl); (case runwc4 => (intro w' hS; (obtain ⟨dn, s, hS⟩ := hS); (obtain ⟨_, hq⟩ := sortB hS); (have y0 := keep hq.h.b Z0.out); (have y1 := keep hq.h.b Z1.out); (have q0 := (hq.ic HI.out).1); (have q1 := (hq.lc HL.out).1); clear hS hq; go_simp; first | done | exact rfl)); (case putwc4 => (first | (simp only [Act.put, List.setIfInBounds_toArray, List.set_cons_zero, List.set_cons_succ]; first | done | exact rfl) | rfl)); (case' nextwc4 => skip))
            (refine' GG.grow_lit (GG.OneW.still (by decide)) rfl ?wtwc5 ?runwc5 ?putwc5 ?nextwc5; (case wtwc5 => rfl); (case runwc5 => (intro w' hS; (obtain ⟨dn, s, hS⟩ := hS); (obtain ⟨_, hq⟩ := sortB hS); (have y0 := keep hq.h.b Z0.out); (have y1 := keep hq.h.b Z1.out); (have q0 := (hq.ic HI.out).1); (have q1 := (hq.lc HL.out).1); clear hS hq; go_simp; first | done | exact rfl)); (case putwc5 => (first | (simp only [Act.put, List.setIfInBounds_toArray, List.set_cons_zero, List.set_cons_succ]; first | done | exact rfl) | rfl)); (case' nextwc5 => skip))
            (refine' GG.grow_lit_call (u := .bool false) rfl Try.func10 (by kernel_rfl) rfl rfl ?wtwc6 ?runwc6 ?putwc6 ?nextwc6; (case wtwc6 => rfl); (case runwc6 => (intro dn s w' hS hd H; exact sortPut (hS.g0 hd) xn y kb0 kb1 y00 y01 HBB.out HMM.out)); (case putwc6 => (first | (simp only [Act.put, List.setIfInBounds_toArray, List.set_cons_zero, List.set_cons_succ]; first | done | exact rfl) | rfl)); (case' nextwc6 => skip))
            (refine' GG.grow_lit (GG.OneW.still (by decide)) rfl ?wtwc7 ?runwc7 ?putwc7 ?nextwc7; (case wtwc7 => rfl); (case runwc7 => (intro w' hS; (obtain ⟨dn, s, hS⟩ := hS); (obtain ⟨_, hq⟩ := sortB hS); (have y0 := keep hq.h.b Z0.out); (have y1 := keep hq.h.b Z1.out); (have q0 := (hq.ic HI.out).1); (have q1 := (hq.lc HL.out).1); clear hS hq; go_simp; first | done | exact rfl)); (case putwc7 => (first | (simp only [Act.put, List.setIfInBounds_toArray, List.set_cons_zero, List.set_cons_succ]; first | done | exact rfl) | rfl)); (case' nextwc7 => skip))
            (refine' GG.grow_lit (GG.OneW.still (by decide)) rfl ?wtwc8 ?runwc8 ?putwc8 ?nextwc8; (case wtwc8 => rfl); (case runwc8 => (intro w' hS; (obtain ⟨dn, s, hS⟩ := hS); (obtain ⟨_, hq⟩ := sortB hS); (have y0 := keep hq.h.b Z0.out); (have y1 := keep hq.h.b Z1.out); (have q0 := (hq.ic HI.out).1); (have q1 := (hq.lc HL.out).1); clear hS hq; go_simp; first | done | exact rfl)); (case putwc8 => (first | (simp only [Act.put, List.setIfInBounds_toArray, List.set_cons_zero, List.set_cons_succ]; first | done | exact rfl) | rfl)); (case' nextwc8 => skip))
            (refine' GG.grow_lit (GG.OneW.still (by decide)) rfl ?wtwc9 ?runwc9 ?putwc9 ?nextwc9; (case wtwc9 => rfl); (case runwc9 => (intro w' hS; (obtain ⟨dn, s, hS⟩ := hS); (obtain ⟨_, hq⟩ := sortB hS); (have y0 := keep hq.h.b Z0.out); (have y1 := keep hq.h.b Z1.out); (have q0 := (hq.ic HI.out).1); (have q1 := (hq.lc HL.out).1); clear hS hq; go_simp; first | done | exact rfl)); (case putwc9 => (first | (simp only [Act.put, List.setIfInBounds_toArray, List.set_cons_zero, List.set_cons_succ]; first | done | exact rfl) | rfl)); (case' nextwc9 => skip))
            (refine' GG.grow_lit (GG.OneW.still (by decide)) rfl ?wtwc10 ?runwc10 ?putwc10 ?nextwc10; (case wtwc10 => rfl); (case runwc10 => (intro w' hS; (obtain ⟨dn, s, hS⟩ := hS); (obtain ⟨_, hq⟩ := sortB hS); (have y0 := keep hq.h.b Z0.out); (have y1 := keep hq.h.b Z1.out); (have q0 := (hq.ic HI.out).1); (have q1 := (hq.lc HL.out).1); clear hS hq; go_simp; first | done | exact rfl)); (case putwc10 => (first | (simp only [Act.put, List.setIfInBounds_toArray, List.set_cons_zero, List.set_cons_succ]; first | done | exact rfl) | rfl)); (case' nextwc10 => skip))
            (refine' GG.grow_lit (GG.OneW.still (by decide)) rfl ?wtwc11 ?runwc11 ?putwc11 ?nextwc11; (case wtwc11 => rfl); (case runwc11 => (intro w' hS; (obtain ⟨dn, s, hS⟩ := hS); (obtain ⟨_, hq⟩ := sortB hS); (have y0 := keep hq.h.b Z0.out); (have y1 := keep hq.h.b Z1.out); (have q0 := (hq.ic HI.out).1); (have q1 := (hq.lc HL.out).1); clear hS hq; go_simp; first | done | exact rfl)); (case putwc11 => (first | (simp only [Act.put, List.setIfInBounds_toArray, List.set_cons_zero, List.set_cons_succ]; first | done | exact rfl) | rfl)); (case' nextwc11 => skip))
            (refine' GG.grow_lit (GG.OneW.still (by decide)) rfl ?wtwc12 ?runwc12 ?putwc12 ?nextwc12; (case wtwc12 => rfl); (case runwc12 => (intro w' hS; (obtain ⟨dn, s, hS⟩ := hS); (obtain ⟨_, hq⟩ := sortB hS); (have y0 := keep hq.h.b Z0.out); (have y1 := keep hq.h.b Z1.out); (have q0 := (hq.ic HI.out).1); (have q1 := (hq.lc HL.out).1); clear hS hq; go_simp; first | done | exact rfl)); (case putwc12 => (first | (simp only [Act.put, List.setIfInBounds_toArray, List.set_cons_zero, List.set_cons_succ]; first | done | exact rfl) | rfl)); (case' nextwc12 => skip))
            (refine' GG.grow_lit (GG.OneW.still (by decide)) rfl ?wtwc13 ?runwc13 ?putwc13 ?nextwc13; (case wtwc13 => rfl); (case runwc13 => (intro w' hS; (obtain ⟨dn, s, hS⟩ := hS); (obtain ⟨_, hq⟩ := sortB hS); (have y0 := keep hq.h.b Z0.out); (have y1 := keep hq.h.b Z1.out); (have q0 := (hq.ic HI.out).1); (have q1 := (hq.lc HL.out).1); clear hS hq; go_simp; first | done | exact rfl)); (case putwc13 => (first | (simp only [Act.put, List.setIfInBounds_toArray, List.set_cons_zero, List.set_cons_succ]; first | done | exact rfl) | rfl)); (case' nextwc13 => skip))
            (refine' GG.grow_lit (GG.OneW.still (by decide)) rfl ?wtwc14 ?runwc14 ?putwc14 ?nextwc14; (case wtwc14 => rfl); (case runwc14 => (intro w' hS; (obtain ⟨dn, s, hS⟩ := hS); (obtain ⟨_, hq⟩ := sortB hS); (have y0 := keep hq.h.b Z0.out); (have y1 := keep hq.h.b Z1.out); (have q0 := (hq.ic HI.out).1); (have q1 := (hq.lc HL.out).1); clear hS hq; go_simp; first | done | exact rfl)); (case putwc14 => (first | (simp only [Act.put, List.setIfInBounds_toArray, List.set_cons_zero, List.set_cons_succ]; first | done | exact rfl) | rfl)); (case' nextwc14 => skip))
            (refine' GG.grow_lit (GG.OneW.still (by decide)) rfl ?wtwc15 ?runwc15 ?putwc15 ?nextwc15; (case wtwc15 => rfl); (case runwc15 => (intro w' hS; (obtain ⟨dn, s, hS⟩ := hS); (obtain ⟨_, hq⟩ := sortB hS); (have y0 := keep hq.h.b Z0.out); (have y1 := keep hq.h.b Z1.out); (have q0 := (hq.ic HI.out).1); (have q1 := (hq.lc HL.out).1); clear hS hq; go_simp; first | done | exact rfl)); (case putwc15 => (first | (simp only [Act.put, List.setIfInBounds_toArray, List.set_cons_zero, List.set_cons_succ]; first | done | exact rfl) | rfl)); (case' nextwc15 => skip))
            (refine' GG.grow_lit (GG.OneW.still (by decide)) rfl ?wtwc16 ?runwc16 ?putwc16 ?nextwc16; (case wtwc16 => rfl); (case runwc16 => (intro w' hS; (obtain ⟨dn, s, hS⟩ := hS); (obtain ⟨_, hq⟩ := sortB hS); (have y0 := keep hq.h.b Z0.out); (have y1 := keep hq.h.b Z1.out); (have q0 := (hq.ic HI.out).1); (have q1 := (hq.lc HL.out).1); clear hS hq; go_simp; first | done | exact rfl)); (case putwc16 => (first | (simp only [Act.put, List.setIfInBounds_toArray, List.set_cons_zero, List.set_cons_succ]; first | done | exact rfl) | rfl)); (case' nextwc16 => skip))
            (refine' GG.grow_lit (GG.OneW.still (by decide)) rfl ?wtwc17 ?runwc17 ?putwc17 ?nextwc17; (case wtwc17 => rfl); (case runwc17 => (intro w' hS; (obtain ⟨dn, s, hS⟩ := hS); (obtain ⟨_, hq⟩ := sortB hS); (have y0 := keep hq.h.b Z0.out); (have y1 := keep hq.h.b Z1.out); (have q0 := (hq.ic HI.out).1); (have q1 := (hq.lc HL.out).1); clear hS hq; go_simp; first | done | exact rfl)); (case putwc17 => (first | (simp only [Act.put, List.setIfInBounds_toArray, List.set_cons_zero, List.set_cons_succ]; first | done | exact rfl) | rfl)); (case' nextwc17 => skip))
            (refine' GG.grow_lit (GG.OneW.still (by decide)) rfl ?wtwc18 ?runwc18 ?putwc18 ?nextwc18; (case wtwc18 => rfl); (case runwc18 => (intro w' hS; (obtain ⟨dn, s, hS⟩ := hS); (obtain ⟨_, hq⟩ := sortB hS); (have y0 := keep hq.h.b Z0.out); (have y1 := keep hq.h.b Z1.out); (have q0 := (hq.ic HI.out).1); (have q1 := (hq.lc HL.out).1); clear hS hq; go_simp; first | done | exact rfl)); (case putwc18 => (first | (simp only [Act.put, List.setIfInBounds_toArray, List.set_cons_zero, List.set_cons_succ]; first | done | exact rfl) | rfl)); (case' nextwc18 => skip))
            intro dn s W2 hS hdn _
            have H2_ := Lib.hid (hS.g1 (hdn 6 (by decide)))
            clear hS hdn HS0 H0
            obtain ⟨q0, q00⟩ := H2_.out.ic HI.out
            obtain ⟨q1, q11⟩ := H2_.out.lc HL.out
            have h3 := H2_.out.setI xn true
            obtain ⟨W3, hW3⟩ := named (W2.setCell ⟨w2.heap.size + 1, xn, none⟩ (.bool true))
            rw [← hW3] at h3
            have HW3 := Lib.hid hW3.symm
            have H3 := Lib.hid h3
            clear h3 hW3
            go_wp2_with fail
            rw [HW3.out]
            clear q0 q00 q1 q11
            go_roundw
            case rel => exact ⟨k + 1, (I.set xn true), L, hlt', by go_num, by rw [HCC.out, HQ.out], by rw [HCC.out, HQ.out]; omega, H3.out⟩
            case measure => simp [intOf]; omega
      · have hkl : ¬ (k : Int) < (l.length : Int) := by omega
        have H := Lib.hid h
        clear h hlt'
        go_wp2_with fail
        go_loopw [8, 12, 13] (fun vl va vb wr => DrainRel w p w2.heap.size (w2.heap.size + 1) vl va vb wr) (fun vl _ _ _ => (intOf vl).toNat)
        case atStart => exact ⟨I, L, -1, -1, rfl, rfl, rfl, H.out, fun k c hc => Or.inl (by have := H.out.h.cost k c hc; omega)⟩
        case round =>
          obtain ⟨I2, L2, last, was, rfl, rfl, rfl, h, hrest⟩ := hrel
          clear H
          obtain ⟨wq, rfl⟩ : ∃ wq : World, wq = wr := ⟨_, rfl⟩
          obtain ⟨Q, hQ⟩ : ∃ Q, cnt (docM I2 L2) 256 = Q := ⟨_, rfl⟩
          have hQb := cnt_le (docM I2 L2) 256
          rw [hQ] at hQb ⊢
          have hQi : (Q : Int) ≤ 256 := by omega
          by_cases hq0 : Q = 0
          · have hd0 : decide (0 < Q) = false := by simpa using hq0
            have hl := lst_zero (show cnt (docM I2 L2) 256 = 0 from by rw [hQ]; exact hq0)
            have HV0 : Hid (popV 256 (docM I2 L2) = (0, 0, false)) := Lib.hid (by unfold popV; rw [hl])
            have HM0 : Hid (popM 256 (docM I2 L2) = docM I2 L2) := Lib.hid (by unfold popM; rw [hl])
            have HC0 : Hid (cnt (docM I2 L2) 256 = 0) := Lib.hid (by rw [hQ]; exact hq0)
            have H := Lib.hid h
            clear h hrest hl hQ hq0
            go_wp2_with fail
            refine H.out.pop.mono ?_
            rw [HV0.out, HM0.out]
            unfold popT
            rintro e w5 ⟨rfl, h5⟩
            have H5 := Lib.hid h5
            clear h5
            go_wp2_with fail
            refine (hxlen H5.out.h).mono ?_
            rw [HC0.out]
            rintro e w6 ⟨rfl, rfl⟩
            go_wp2_with fail
            go_ret
            exact ⟨rfl, H5.out.h.b⟩
          · have hd0 : decide (0 < Q) = true := by simp; omega
            have hq1 : 1 ≤ Q := by omega
            obtain ⟨x, hl⟩ := lst_pos (show 0 < cnt (docM I2 L2) 256 from by rw [hQ]; omega)
            obtain ⟨hx1, hx2, hx3⟩ := lst_of hl
            obtain ⟨i1, i2⟩ := docM_inv hx2
            have hcn := cnt_pop hx1 hx2
            rw [hQ] at hcn
            have HV0 : Hid (popV 256 (docM I2 L2) = ((x.1 : Int), x.2, true)) := Lib.hid (by unfold popV; rw [hl])
            have HM0 : Hid (popM 256 (docM I2 L2) = docM (I2.set x.1 false) L2) := Lib.hid (by unfold popM; rw [hl]; exact (docM_pop (by rw [h.il]; exact hx1)).symm)
            have HC0 : Hid (cnt (docM I2 L2) 256 = Q) := Lib.hid hQ
            have HC1 : Hid ((cnt (docM (I2.set x.1 false) L2) 256 : Int) = (Q : Int) - 1) := Lib.hid (by rw [docM_pop (by rw [h.il]; exact hx1)]; omega)
            have HRS : Hid (∀ k c, docM (I2.set x.1 false) L2 k = some c → x.2 < c ∨ x.2 = c ∧ (x.1 : Int) < (k : Int)) := Lib.hid fun k c hc => by
              rw [docM_pop (by rw [h.il]; exact hx1)] at hc
              by_cases e : k = x.1
              · rw [e, upd_at] at hc; cases hc
              · rw [upd_ne _ _ e] at hc
                have hk : k < 256 := by
                  by_cases hk : k < 256
                  · exact hk
                  · rw [docM_out (by rw [h.il]; omega)] at hc; cases hc
                have := hx3 k c hk hc
                unfold ahd at this
                simp only at this
                omega
            have hlast := hrest x.1 x.2 hx2
            have dx0 : decide ((x.1 : Int) < 0) = false := by simp
            have dx1 : decide ((255 : Int) < (x.1 : Int)) = false := by simp; omega
            have hx256 : (x.1 : Int) < 256 := by omega
            have dl : decide (x.2 < last) = false := by simp; omega
            have hor : (x.2 == last) = false ∨ ((x.2 == last) = true ∧ decide ((x.1 : Int) ≤ was) = false) := by
              by_cases e : x.2 = last
              · exact Or.inr ⟨by simpa using e, by simp; omega⟩
              · exact Or.inl (by simpa using e)
            have H := Lib.hid h
            have I1 := Lib.hid i1
            have I2_ := Lib.hid i2
            clear h hrest hl hQ hq0 hx2 hx3 i1 i2 hcn hlast
            obtain ⟨xk, xc⟩ := x
            simp only [] at HV0 HM0 HC1 HRS dx0 dx1 hx256 dl hor I1 I2_
            rcases hor with e1 | ⟨e1, e2⟩
            all_goals
              go_wp2_with fail
              refine (hxlen H.out.h).mono ?_
              rw [HC0.out]
              rintro e w6 ⟨rfl, rfl⟩
              go_wp2_with fail
              refine H.out.pop.mono ?_
              rw [HV0.out, HM0.out]
              unfold popT
              rintro e w5 ⟨rfl, h5⟩
              obtain ⟨q0, q00⟩ := h5.ic I1.out
              obtain ⟨q1, q11⟩ := h5.lc I2_.out
              have h6 := h5.setI xk false
              obtain ⟨w7, hw7⟩ := named (w5.setCell ⟨w2.heap.size + 1, xk, none⟩ (.bool false))
              rw [← hw7] at h6
              have H6 := Lib.hid h6
              have HW7 := Lib.hid hw7.symm
              clear h5 h6 hw7
              go_wp2_with fail
              rw [HW7.out]
              clear q0 q00 q1 q11
              go_roundw
              case rel => exact ⟨_, L2, xc, xk, by rw [HC1.out], rfl, rfl, H6.out, HRS.out⟩
              case measure => simp [intOf]; omega

set_option maxRecDepth 100000 in
theorem heapSorts_walks : WalksP 4 Try.f4 := by
  intro H enc W args ds g
  obtain ⟨ps, hA⟩ := g.reads
  obtain ⟨base, hval⟩ := g.okay
  rw [Try.params4] at hA hval
  obtain ⟨v0, vs0, d0, ds0, p0, q0, hargs, rfl, rfl, h0, r0⟩ := trodAll_cons hA
  obtain ⟨v1, vs1, d1, ds1, p1, q1, rfl, rfl, rfl, h1, r1⟩ := trodAll_cons r0
  obtain ⟨rfl, rfl, rfl⟩ := trodAll_nil r1
  obtain rfl : args = #[v0, v1] := Array.toList_inj.1 hargs
  obtain ⟨x0, w0, u0⟩ := open_u8p (hval 0 35 v0 rfl rfl) h0
  obtain ⟨x1, w1, u1⟩ := open_i64p (hval 1 36 v1 rfl rfl) h1
  exact sorts_walk v0 x0 v1 x1 W w0 u0 w1 u1

theorem heapSorts_row : Rows.HeapSortsSaid :=
  OpenClaim.holds_of_wide 4 Try.f4 rfl rfl rfl rfl rfl rfl rfl ⟨rfl, rfl, rfl, rfl, rfl⟩ rfl rfl rfl rfl rfl (by kernel_rfl) Try.func4 (by kernel_rfl)
    (of_decide_eq_true (by kernel_rfl)) (by unfold Func.isWrapper; rw [if_neg (of_decide_eq_false (by kernel_rfl))]; exact ⟨rfl, rfl⟩)
    (fun os started H enc _ => law_plain (s := Rows.heapSortsSpec) Try.func4 (by kernel_rfl) rfl (by kernel_rfl)
      (fun H ds hl => by
        rw [Try.params4] at hl
        match ds, hl with
        | [_, _], _ => exact ⟨rfl, rfl, rfl⟩)
      (by kernel_rfl) os started H enc
      (ChangeSpec.witness6 (enc := enc) (C := Try.checked) false ⟨#[], #[.slice none 0 0, .slice none 0 0], []⟩ 8 (by kernel_rfl) (by kernel_rfl) (by kernel_rfl) (by kernel_rfl))
      heapSorts_walks)
#print axioms heapSorts_row

end Go.Proofs.Ytmbeelakkiodaaa
