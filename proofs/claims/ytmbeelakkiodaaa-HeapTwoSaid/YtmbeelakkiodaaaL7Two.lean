/-
  The law HeapTwo: whatever the rows of keys and costs, it answers true, and nothing that was there has turned.
-/
import Derived.Test.YtmbeelakkiodaaaTwo7
namespace Go.Proofs.Ytmbeelakkiodaaa
open Go.ChangeShapes Go.WideShapes Go.ChangeAt Go.RowKit

theorem h3B {w0 w : World} {p q r p' q' r' j : Nat} {a b c a' b' c' : Nat → Option Int} {dn : Nat → Bool} {s : Unit} (h : GG.OneW j (fun w' => H3 w0 w' p q r a b c) (fun w' => H3 w0 w' p' q' r' a' b' c') dn s w) : Below w0.heap.size w0 w := h.both.elim (fun h => h.b) (fun h => h.b)
theorem h3Put {w0 w : World} {p q r j : Nat} {a b c : Nat → Option Int} {A : World → Prop} {dn : Nat → Bool} {s : Unit} (h : H3 w0 w p q r a b c) (k y : Int) (k0 : -9223372036854775808 ≤ k) (k1 : k ≤ 9223372036854775807) (c0 : -9223372036854775808 ≤ y) (c1 : y ≤ 9223372036854775807) {B : World → Prop} (hB : ∀ w', H3 w0 w' p q r (putM 256 a k y) b c → B w') :
    Calls Try.prog 10 #[hp p, .int .i64 k, .int .i64 y] w fun e w2 => ∃ s' : Unit, e = .returned (.bool (putB 256 a k y)) ∧ GG.OneW j A B (GG.doneG dn j) s' w2 ∧ GG.RlW s w s' w2 ∧ w.heap.size ≤ w2.heap.size :=
  (h3put h k y k0 k1 c0 c1).mono fun _ _ ⟨a1, a2, a3⟩ => ⟨(), a1, GG.OneW.put (hB _ a2), trivial, a3⟩
theorem h3PutB {w0 w : World} {p q r j : Nat} {a b c : Nat → Option Int} {A : World → Prop} {dn : Nat → Bool} {s : Unit} (h : H3 w0 w p q r a b c) (k y : Int) (k0 : -9223372036854775808 ≤ k) (k1 : k ≤ 9223372036854775807) (c0 : -9223372036854775808 ≤ y) (c1 : y ≤ 9223372036854775807) {o : Bool} (ho : putB 256 a k y = o) {B : World → Prop} (hB : ∀ w', H3 w0 w' p q r (putM 256 a k y) b c → B w') :
    Calls Try.prog 10 #[hp p, .int .i64 k, .int .i64 y] w fun e w2 => ∃ s' : Unit, e = .returned (.bool o) ∧ GG.OneW j A B (GG.doneG dn j) s' w2 ∧ GG.RlW s w s' w2 ∧ w.heap.size ≤ w2.heap.size := by
  subst ho
  exact h3Put h k y k0 k1 c0 c1 hB
theorem Nums.all {k : IntKind} {w : World} {b o n c : Nat} {l : List Int} (h : Nums k w (.slice (some ⟨b, o, none⟩) n c) l) {i : Nat} {x : Int} (hx : l[i]? = some x) : w.cell? ⟨b, o + i, none⟩ = some (.int k x) := by
  obtain ⟨b', o', e, hc, -⟩ := h.at hx
  injection e with e
  injection e with e1 e2
  rw [e1, e2]
  exact hc
theorem h3First {w0 w : World} {p q r p' q' r' i : Nat} {a b c a' b' c' : Nat → Option Int} {dn : Nat → Bool} {s : Unit} (h : GG.OneW 10 (fun w' => H3 w0 w' p q r a b c) (fun w' => H3 w0 w' p' q' r' a' b' c') dn s w) (hi : 10 ≠ i) {b1 o1 n1 c1 b2 o2 n2 c2 k : Nat} {l cs : List Int} (hl : Nums .u8 w0 (.slice (some ⟨b1, o1, none⟩) n1 c1) l) (hc : Nums .i64 w0 (.slice (some ⟨b2, o2, none⟩) n2 c2) cs) (h1 : k ≤ l.length) (h2 : k ≤ cs.length) (h3 : k ≤ 80) (hic : In64 cs) (x d : Int) (d0 : -9223372036854775808 ≤ d) (d1 : d ≤ 9223372036854775807) {B : Bool} (hB : firstB l cs k x d = B) :
    Calls Try.prog 19 #[.slice (some ⟨b1, o1, none⟩) k c1, .int .u8 x, .slice (some ⟨b2, o2, none⟩) k c2, .int .i64 d] w fun e w2 => ∃ s' : Unit, e = .returned (.bool B) ∧ GG.OneW 10 (fun w' => H3 w0 w' p q r a b c) (fun w' => H3 w0 w' p' q' r' a' b' c') (GG.doneG dn i) s' w2 ∧ GG.RlW s w s' w2 ∧ w.heap.size ≤ w2.heap.size := by
  have hb := h3B h
  refine (first_any h1 h2 h3 (fun i x _ hx => keep hb (hl.all hx)) (fun i x _ hx => keep hb (hc.all hx)) hic x d d0 d1 hB).mono ?_
  rintro e w2 ⟨a1, rfl⟩
  exact ⟨(), a1, (GG.OneW.still hi).1 dn s w h, trivial, Nat.le_refl _⟩
/-- The first loop at a round's head. -/
def TwoA (w0 : World) (p q r n : Nat) (v : Value) (wr : World) : Prop := ∃ (k : Nat) (m : Nat → Option Int), k ≤ n ∧ v = .int .i64 k ∧ H3 w0 wr p q r m (fun _ => none) (fun _ => none)
/-- The second one. -/
def TwoB (w0 : World) (p q r : Nat) (l c : List Int) (v : Value) (wr : World) : Prop := ∃ (k : Nat) (m x : Nat → Option Int), k ≤ l.length ∧ v = .int .i64 k ∧ H3 w0 wr p q r m m x ∧ Told m l c k
/-- The third one. -/
def TwoC (w0 : World) (p q r : Nat) (wr : World) : Prop := ∃ m x : Nat → Option Int, H3 w0 wr p q r m m x
set_option maxHeartbeats 16000000 in
set_option maxRecDepth 100000 in
theorem two_walk (v : Value) (l : List Int) (u : Value) (l2 : List Int) (z : Value) (c : List Int) (w : World) (hv : Nums .u8 w v l) (hin : InU8 l) (hu : Nums .u8 w u l2) (hin2 : InU8 l2) (hz : Nums .i64 w z c) (hic : In64 c) :
    Calls Try.prog 6 #[v, u, z] w fun e w' => e = .returned (.bool true) ∧ Below w.heap.size w w' := by
  obtain ⟨qv, cv, rfl⟩ := hv.shape
  obtain ⟨qu, cu, rfl⟩ := hu.shape
  obtain ⟨qz, cz, rfl⟩ := hz.shape
  have HV := Lib.hid hv
  have HIN := Lib.hid hin
  have HU := Lib.hid hu
  have HIN2 := Lib.hid hin2
  have HZ := Lib.hid hz
  have HIC := Lib.hid hic
  have hll := hv.len
  have hl2 := hu.len
  have hlc := hz.len
  clear hv hin hu hin2 hz hic
  by_cases hbig : 80 < l.length ∨ 80 < l2.length ∨ c.length < l.length ∨ c.length < l2.length
  · have hor : decide ((80 : Int) < (l.length : Int)) = true ∨ (¬ (80 : Int) < (l.length : Int) ∧ decide ((80 : Int) < (l2.length : Int)) = true) ∨ (¬ (80 : Int) < (l.length : Int) ∧ ¬ (80 : Int) < (l2.length : Int) ∧ decide (c.length < l.length) = true) ∨ (¬ (80 : Int) < (l.length : Int) ∧ ¬ (80 : Int) < (l2.length : Int) ∧ ¬ c.length < l.length ∧ decide (c.length < l2.length) = true) := by
      by_cases e : 80 < l.length
      · exact Or.inl (decide_eq_true (by omega))
      · by_cases e2 : 80 < l2.length
        · exact Or.inr (Or.inl ⟨by omega, decide_eq_true (by omega)⟩)
        · by_cases e3 : c.length < l.length
          · exact Or.inr (Or.inr (Or.inl ⟨by omega, by omega, decide_eq_true e3⟩))
          · exact Or.inr (Or.inr (Or.inr ⟨by omega, by omega, e3, decide_eq_true (by omega)⟩))
    clear hbig
    rcases hor with hor | ⟨h1, hor⟩ | ⟨h1, h2, hor⟩ | ⟨h1, h2, h3, hor⟩
    all_goals
      go_enter Try.func6, Try.ntmps6
      go_wp2_with fail
      refine (known7 _).mono ?_
      rintro e w1 ⟨rfl, hb⟩
      go_wp2_with fail
      go_ret
      exact ⟨rfl, hb⟩
  · have h80 : ¬ (80 : Int) < (l.length : Int) := by omega
    have h802 : ¬ (80 : Int) < (l2.length : Int) := by omega
    have hcl : ¬ c.length < l.length := fun e => hbig (Or.inr (Or.inr (Or.inl e)))
    have hcl2 : ¬ c.length < l2.length := fun e => hbig (Or.inr (Or.inr (Or.inr e)))
    clear hbig
    have h256 : keysN 256 = 256 := rfl
    have H256 := Lib.hid h256
    clear h256
    go_enter Try.func6, Try.ntmps6
    go_wp2_with fail
    refine (known7 _).mono ?_
    rintro e w1 ⟨rfl, hb⟩
    have HB := Lib.hid hb
    clear hb
    go_wp2_with fail
    refine (h1new 256 w w1 HB.out (by decide) (by decide)).mono ?_
    rintro e w2 ⟨p, rfl, h⟩
    rw [H256.out] at h
    have HP := Lib.hid h
    clear h
    go_wp2_with fail
    refine (hnew_any 256 w2 (by decide) (by decide)).mono ?_
    rintro e w3 ⟨q, rfl, h, hb⟩
    rw [H256.out] at h
    have HQ := Lib.hid h
    have HB3 := Lib.hid hb
    clear h hb
    go_wp2_with fail
    refine (hnew_any 256 w3 (by decide) (by decide)).mono ?_
    rintro e w4 ⟨r, rfl, h, hb⟩
    rw [H256.out] at h
    have H : Hid (H3 w w4 p q r (fun _ => none) (fun _ => none) (fun _ => none)) := by
      have b0 := HP.out.b
      have b1 := HB3.out
      have s0 := b0.size
      have s1 := b1.size
      have b2 : Below w2.heap.size w2 w4 := b1.trans (hb.mono s1)
      refine Lib.hid ⟨b0.trans (b2.mono s0), fun b => w.heap.size ≤ b ∧ b < w2.heap.size, fun b => w2.heap.size ≤ b ∧ b < w3.heap.size, fun b => w3.heap.size ≤ b, (HP.out.h.mono fun b hl hs => ⟨hs, hl⟩).old b2, (HQ.out.mono fun b hl hs => ⟨hs, hl⟩).old hb, h, fun b hb => hb.1, fun b hb => Nat.le_trans s0 hb.1, fun b hb => Nat.le_trans s0 (Nat.le_trans s1 hb), fun b hb hc => ?_, fun b hb hc => ?_, fun b hb hc => ?_⟩
      · have := hb.2; have := hc.1; omega
      · have := hb.2; omega
      · have := hb.2; omega
    clear h hb HP HQ HB3
    go_wp2_with fail
    go_loopw [10] (fun v wr => TwoA w p q r l.length v wr) (fun v _ => l.length - (intOf v).toNat)
    case atStart => exact ⟨0, _, Nat.zero_le _, rfl, H.out⟩
    case round =>
      obtain ⟨k, m, hk, rfl, h⟩ := hrel
      clear H
      obtain ⟨wo, rfl⟩ : ∃ wo : World, wo = wr := ⟨_, rfl⟩
      by_cases hlt : k < l.length
      · obtain ⟨x, hx⟩ : ∃ x, l[k]? = some x := ⟨_, List.getElem?_eq_getElem hlt⟩
        obtain ⟨y, hy⟩ : ∃ y, c[k]? = some y := ⟨_, List.getElem?_eq_getElem (by omega)⟩
        obtain ⟨x0, x1⟩ := HIN.out x (List.mem_of_getElem? hx)
        obtain ⟨y00, y01⟩ := HIC.out y (List.mem_of_getElem? hy)
        obtain ⟨xn, rfl⟩ : ∃ xn : Nat, x = xn := ⟨x.toNat, by omega⟩
        obtain ⟨b1, o1, rfl, z0, -, -⟩ := HV.out.at hx
        obtain ⟨b2, o2, rfl, z1, -, -⟩ := HZ.out.at hy
        have Z0 := Lib.hid z0
        have Z1 := Lib.hid z1
        have hki : (k : Int) < (l.length : Int) := by omega
        have hkc : (k : Int) < (c.length : Int) := by omega
        have kb0 : -9223372036854775808 ≤ (xn : Int) := by omega
        have kb1 : (xn : Int) ≤ 9223372036854775807 := by omega
        have hwr : IntKind.i64.wrap (xn : Int) = (xn : Int) := IntWalk.i64_in _ (by omega)
        have HA : Hid (H3 w wo.drew p q r m (fun _ => none) (fun _ => none)) := Lib.hid (h.old (Below.refl _ _).drew)
        clear h z0 z1 hx hy
        go_wp2_with fail
        refine' GG.wp_growL _ (GG.OneW 10 (fun w' => H3 w w' p q r m (fun _ => none) (fun _ => none)) (fun w' => H3 w w' p q r (putM 256 m xn y) (fun _ => none) (fun _ => none))) [[], [], [], [1, 2], [1, 2, 3], [1, 2, 3, 4], [], [], [6, 7], [6, 7, 8], [0, 1, 2, 3, 4, 5, 6, 7, 8, 9]] (GG.Fact.lit (Rl := GG.RlW) _ :: GG.Fact.lit (Rl := GG.RlW) _ :: GG.Fact.lit (Rl := GG.RlW) _ :: GG.Fact.lit (Rl := GG.RlW) _ :: GG.Fact.lit (Rl := GG.RlW) _ :: GG.Fact.lit (Rl := GG.RlW) _ :: GG.Fact.lit (Rl := GG.RlW) _ :: GG.Fact.lit (Rl := GG.RlW) _ :: GG.Fact.lit (Rl := GG.RlW) _ :: GG.Fact.lit (Rl := GG.RlW) _ :: GG.Fact.lit (Rl := GG.RlW) _ :: []) (by kernel_rfl) rfl (by kernel_rfl) (()) (GG.OneW.start (HA.out)) ?seqt11
        case' seqt11 => skip
        (refine' GG.grow_lit (GG.OneW.still (by decide)) rfl ?wtt110 ?runt110 ?putt110 ?nextt110; (case wtt110 => rfl); (case runt110 => (intro w' hS; (obtain ⟨dn, s, hS⟩ := hS); (have hq := h3B hS); (have y0 := keep hq Z0.out); (have y1 := keep hq Z1.out); clear hS hq; go_simp; first | done | exact rfl)); (case putt110 => (first | (simp only [Act.put, List.setIfInBounds_toArray, List.set_cons_zero, List.set_cons_succ]; first | done | exact rfl) | rfl)); (case' nextt110 => skip))
        (refine' GG.grow_lit (GG.OneW.still (by decide)) rfl ?wtt111 ?runt111 ?putt111 ?nextt111; (case wtt111 => rfl); (case runt111 => (intro w' hS; (obtain ⟨dn, s, hS⟩ := hS); (have hq := h3B hS); (have y0 := keep hq Z0.out); (have y1 := keep hq Z1.out); clear hS hq; go_simp; first | done | exact rfl)); (case putt111 => (first | (simp only [Act.put, List.setIfInBounds_toArray, List.set_cons_zero, List.set_cons_succ]; first | done | exact rfl) | rfl)); (case' nextt111 => skip))
        (refine' GG.grow_lit (GG.OneW.still (by decide)) rfl ?wtt112 ?runt112 ?putt112 ?nextt112; (case wtt112 => rfl); (case runt112 => (intro w' hS; (obtain ⟨dn, s, hS⟩ := hS); (have hq := h3B hS); (have y0 := keep hq Z0.out); (have y1 := keep hq Z1.out); clear hS hq; go_simp; first | done | exact rfl)); (case putt112 => (first | (simp only [Act.put, List.setIfInBounds_toArray, List.set_cons_zero, List.set_cons_succ]; first | done | exact rfl) | rfl)); (case' nextt112 => skip))
        (refine' GG.grow_lit (GG.OneW.still (by decide)) rfl ?wtt113 ?runt113 ?putt113 ?nextt113; (case wtt113 => rfl); (case runt113 => (intro w' hS; (obtain ⟨dn, s, hS⟩ := hS); (have hq := h3B hS); (have y0 := keep hq Z0.out); (have y1 := keep hq Z1.out); clear hS hq; go_simp; first | done | exact rfl)); (case putt113 => (first | (simp only [Act.put, List.setIfInBounds_toArray, List.set_cons_zero, List.set_cons_succ]; first | done | exact rfl) | rfl)); (case' nextt113 => skip))
        (refine' GG.grow_lit (GG.OneW.still (by decide)) rfl ?wtt114 ?runt114 ?putt114 ?nextt114; (case wtt114 => rfl); (case runt114 => (intro w' hS; (obtain ⟨dn, s, hS⟩ := hS); (have hq := h3B hS); (have y0 := keep hq Z0.out); (have y1 := keep hq Z1.out); clear hS hq; go_simp; first | done | exact rfl)); (case putt114 => (first | (simp only [Act.put, List.setIfInBounds_toArray, List.set_cons_zero, List.set_cons_succ]; first | done | exact rfl) | rfl)); (case' nextt114 => skip))
        (refine' GG.grow_lit (GG.OneW.still (by decide)) rfl ?wtt115 ?runt115 ?putt115 ?nextt115; (case wtt115 => rfl); (case runt115 => (intro w' hS; (obtain ⟨dn, s, hS⟩ := hS); (have hq := h3B hS); (have y0 := keep hq Z0.out); (have y1 := keep hq Z1.out); clear hS hq; go_simp; first | done | exact rfl)); (case putt115 => (first | (simp only [Act.put, List.setIfInBounds_toArray, List.set_cons_zero, List.set_cons_succ]; first | done | exact rfl) | rfl)); (case' nextt115 => skip))
        (refine' GG.grow_lit (GG.OneW.still (by decide)) rfl ?wtt116 ?runt116 ?putt116 ?nextt116; (case wtt116 => rfl); (case runt116 => (intro w' hS; (obtain ⟨dn, s, hS⟩ := hS); (have hq := h3B hS); (have y0 := keep hq Z0.out); (have y1 := keep hq Z1.out); clear hS hq; go_simp; first | done | exact rfl)); (case putt116 => (first | (simp only [Act.put, List.setIfInBounds_toArray, List.set_cons_zero, List.set_cons_succ]; first | done | exact rfl) | rfl)); (case' nextt116 => skip))
        (refine' GG.grow_lit (GG.OneW.still (by decide)) rfl ?wtt117 ?runt117 ?putt117 ?nextt117; (case wtt117 => rfl); (case runt117 => (intro w' hS; (obtain ⟨dn, s, hS⟩ := hS); (have hq := h3B hS); (have y0 := keep hq Z0.out); (have y1 := keep hq Z1.out); clear hS hq; go_simp; first | done | exact rfl)); (case putt117 => (first | (simp only [Act.put, List.setIfInBounds_toArray, List.set_cons_zero, List.set_cons_succ]; first | done | exact rfl) | rfl)); (case' nextt117 => skip))
        (refine' GG.grow_lit (GG.OneW.still (by decide)) rfl ?wtt118 ?runt118 ?putt118 ?nextt118; (case wtt118 => rfl); (case runt118 => (intro w' hS; (obtain ⟨dn, s, hS⟩ := hS); (have hq := h3B hS); (have y0 := keep hq Z0.out); (have y1 := keep hq Z1.out); clear hS hq; go_simp; first | done | exact rfl)); (case putt118 => (first | (simp only [Act.put, List.setIfInBounds_toArray, List.set_cons_zero, List.set_cons_succ]; first | done | exact rfl) | rfl)); (case' nextt118 => skip))
        (refine' GG.grow_lit (GG.OneW.still (by decide)) rfl ?wtt119 ?runt119 ?putt119 ?nextt119; (case wtt119 => rfl); (case runt119 => (intro w' hS; (obtain ⟨dn, s, hS⟩ := hS); (have hq := h3B hS); (have y0 := keep hq Z0.out); (have y1 := keep hq Z1.out); clear hS hq; go_simp; first | done | exact rfl)); (case putt119 => (first | (simp only [Act.put, List.setIfInBounds_toArray, List.set_cons_zero, List.set_cons_succ]; first | done | exact rfl) | rfl)); (case' nextt119 => skip))
        (refine' GG.grow_lit_call (u := .bool (putB 256 m xn y)) rfl Try.func10 (by kernel_rfl) rfl rfl ?wtt1110 ?runt1110 ?putt1110 ?nextt1110; (case wtt1110 => rfl); (case runt1110 => (intro dn s w' hS hd H; exact h3Put (hS.g0 hd) xn y kb0 kb1 y00 y01 (fun _ h => h))); (case putt1110 => (first | (simp only [Act.put, List.setIfInBounds_toArray, List.set_cons_zero, List.set_cons_succ]; first | done | exact rfl) | rfl)); (case' nextt1110 => skip))
        intro dn s W2 hS hdn _
        have H_ := Lib.hid (hS.g1 (hdn 10 (by decide)))
        clear hS hdn HA
        go_wp2_with fail
        go_roundw
        case rel => exact ⟨k + 1, _, hlt, by go_num, H_.out⟩
        case measure => simp [intOf]; omega
      · have hkl : ¬ (k : Int) < (l.length : Int) := by omega
        have H := Lib.hid h
        clear h hlt
        go_wp2_with fail
        refine (h3clear H.out).mono ?_
        rintro e w5 ⟨rfl, h5⟩
        have H5 := Lib.hid h5
        clear h5
        go_wp2_with fail
        refine (h3len H5.out).mono ?_
        rw [cnt_none]
        rintro e w6 ⟨rfl, rfl⟩
        go_wp2_with fail
        go_loopw [11] (fun v wr => TwoB w p q r l2 c v wr) (fun v _ => l2.length - (intOf v).toNat)
        case atStart => exact ⟨0, _, _, Nat.zero_le _, rfl, H5.out, Told.zero _ _⟩
        case round =>
          obtain ⟨k, m, mx, hk, rfl, h, htold⟩ := hrel
          clear H5 H
          obtain ⟨wq, rfl⟩ : ∃ wq : World, wq = wr := ⟨_, rfl⟩
          by_cases hlt : k < l2.length
          · obtain ⟨x, hx⟩ : ∃ x, l2[k]? = some x := ⟨_, List.getElem?_eq_getElem hlt⟩
            obtain ⟨y, hy⟩ : ∃ y, c[k]? = some y := ⟨_, List.getElem?_eq_getElem (by omega)⟩
            obtain ⟨x0, x1⟩ := HIN2.out x (List.mem_of_getElem? hx)
            obtain ⟨y00, y01⟩ := HIC.out y (List.mem_of_getElem? hy)
            obtain ⟨xn, rfl⟩ : ∃ xn : Nat, x = xn := ⟨x.toNat, by omega⟩
            obtain ⟨b1, o1, rfl, z0, hcu, -⟩ := HU.out.at hx
            obtain ⟨b2, o2, rfl, z1, hcz, -⟩ := HZ.out.at hy
            have Z0 := Lib.hid z0
            have Z1 := Lib.hid z1
            have hki : (k : Int) < (l2.length : Int) := by omega
            have hkc : (k : Int) < (c.length : Int) := by omega
            have kb0 : -9223372036854775808 ≤ (xn : Int) := by omega
            have kb1 : (xn : Int) ≤ 9223372036854775807 := by omega
            have hwr : IntKind.i64.wrap (xn : Int) = (xn : Int) := IntWalk.i64_in _ (by omega)
            obtain ⟨xd, hxd⟩ : ∃ xd : Nat, xn / 2 = xd := ⟨_, rfl⟩
            have hdv : (xn : Int).tdiv 2 = (xd : Int) := by rw [Int.tdiv_eq_ediv_of_nonneg (by omega)]; omega
            have hwd : IntKind.i64.wrap (xd : Int) = (xd : Int) := IntWalk.i64_in _ (by omega)
            have hde : (xn : Int) / 2 = (xd : Int) := by omega
            have kd0 : -9223372036854775808 ≤ (xd : Int) := by omega
            have kd1 : (xd : Int) ≤ 9223372036854775807 := by omega
            clear hxd
            obtain ⟨FB, hFB⟩ : ∃ FB, firstB l2 c k xn y = FB := ⟨_, rfl⟩
            have HFB := Lib.hid hFB
            have HPB : Hid (putB 256 m xn y = FB) := Lib.hid ((firstB_of htold (by omega)).trans hFB)
            have HTS := Lib.hid (htold.step hx hy (by omega))
            have HTZ : Hid (k = 0 → FB = true) := Lib.hid fun e => by rw [← hFB]; exact firstB_iff.2 fun ⟨i, hi, _⟩ => by omega
            have HA : Hid (H3 w wq.drew p q r m m mx) := Lib.hid (h.old (Below.refl _ _).drew)
            clear h z0 z1 hx hy htold hFB
            go_wp2_with fail
            refine' GG.wp_growL _ (GG.OneW 10 (fun w' => H3 w w' p q r m m mx) (fun w' => H3 w w' p q r m (putM 256 m xn y) mx)) [[], [], [], [1, 2], [1, 2, 3], [1, 2, 3, 4], [], [], [6, 7], [6, 7, 8], [0, 1, 2, 3, 4, 5, 6, 7, 8, 9]] (GG.Fact.lit (Rl := GG.RlW) _ :: GG.Fact.lit (Rl := GG.RlW) _ :: GG.Fact.lit (Rl := GG.RlW) _ :: GG.Fact.lit (Rl := GG.RlW) _ :: GG.Fact.lit (Rl := GG.RlW) _ :: GG.Fact.lit (Rl := GG.RlW) _ :: GG.Fact.lit (Rl := GG.RlW) _ :: GG.Fact.lit (Rl := GG.RlW) _ :: GG.Fact.lit (Rl := GG.RlW) _ :: GG.Fact.lit (Rl := GG.RlW) _ :: GG.Fact.lit (Rl := GG.RlW) _ :: []) (by kernel_rfl) rfl (by kernel_rfl) (()) (GG.OneW.start (HA.out)) ?seqt18
            case' seqt18 => skip
            (refine' GG.grow_lit (GG.OneW.still (by decide)) rfl ?wtt180 ?runt180 ?putt180 ?nextt180; (case wtt180 => rfl); (case runt180 => (intro w' hS; (obtain ⟨dn, s, hS⟩ := hS); (have hq := h3B hS); (have y0 := keep hq Z0.out); (have y1 := keep hq Z1.out); clear hS hq; go_simp; first | done | exact rfl)); (case putt180 => (first | (simp only [Act.put, List.setIfInBounds_toArray, List.set_cons_zero, List.set_cons_succ]; first | done | exact rfl) | rfl)); (case' nextt180 => skip))
            (refine' GG.grow_lit (GG.OneW.still (by decide)) rfl ?wtt181 ?runt181 ?putt181 ?nextt181; (case wtt181 => rfl); (case runt181 => (intro w' hS; (obtain ⟨dn, s, hS⟩ := hS); (have hq := h3B hS); (have y0 := keep hq Z0.out); (have y1 := keep hq Z1.out); clear hS hq; go_simp; first | done | exact rfl)); (case putt181 => (first | (simp only [Act.put, List.setIfInBounds_toArray, List.set_cons_zero, List.set_cons_succ]; first | done | exact rfl) | rfl)); (case' nextt181 => skip))
            (refine' GG.grow_lit (GG.OneW.still (by decide)) rfl ?wtt182 ?runt182 ?putt182 ?nextt182; (case wtt182 => rfl); (case runt182 => (intro w' hS; (obtain ⟨dn, s, hS⟩ := hS); (have hq := h3B hS); (have y0 := keep hq Z0.out); (have y1 := keep hq Z1.out); clear hS hq; go_simp; first | done | exact rfl)); (case putt182 => (first | (simp only [Act.put, List.setIfInBounds_toArray, List.set_cons_zero, List.set_cons_succ]; first | done | exact rfl) | rfl)); (case' nextt182 => skip))
            (refine' GG.grow_lit (GG.OneW.still (by decide)) rfl ?wtt183 ?runt183 ?putt183 ?nextt183; (case wtt183 => rfl); (case runt183 => (intro w' hS; (obtain ⟨dn, s, hS⟩ := hS); (have hq := h3B hS); (have y0 := keep hq Z0.out); (have y1 := keep hq Z1.out); clear hS hq; go_simp; first | done | exact rfl)); (case putt183 => (first | (simp only [Act.put, List.setIfInBounds_toArray, List.set_cons_zero, List.set_cons_succ]; first | done | exact rfl) | rfl)); (case' nextt183 => skip))
            (refine' GG.grow_lit (GG.OneW.still (by decide)) rfl ?wtt184 ?runt184 ?putt184 ?nextt184; (case wtt184 => rfl); (case runt184 => (intro w' hS; (obtain ⟨dn, s, hS⟩ := hS); (have hq := h3B hS); (have y0 := keep hq Z0.out); (have y1 := keep hq Z1.out); clear hS hq; go_simp; first | done | exact rfl)); (case putt184 => (first | (simp only [Act.put, List.setIfInBounds_toArray, List.set_cons_zero, List.set_cons_succ]; first | done | exact rfl) | rfl)); (case' nextt184 => skip))
            (refine' GG.grow_lit (GG.OneW.still (by decide)) rfl ?wtt185 ?runt185 ?putt185 ?nextt185; (case wtt185 => rfl); (case runt185 => (intro w' hS; (obtain ⟨dn, s, hS⟩ := hS); (have hq := h3B hS); (have y0 := keep hq Z0.out); (have y1 := keep hq Z1.out); clear hS hq; go_simp; first | done | exact rfl)); (case putt185 => (first | (simp only [Act.put, List.setIfInBounds_toArray, List.set_cons_zero, List.set_cons_succ]; first | done | exact rfl) | rfl)); (case' nextt185 => skip))
            (refine' GG.grow_lit (GG.OneW.still (by decide)) rfl ?wtt186 ?runt186 ?putt186 ?nextt186; (case wtt186 => rfl); (case runt186 => (intro w' hS; (obtain ⟨dn, s, hS⟩ := hS); (have hq := h3B hS); (have y0 := keep hq Z0.out); (have y1 := keep hq Z1.out); clear hS hq; go_simp; first | done | exact rfl)); (case putt186 => (first | (simp only [Act.put, List.setIfInBounds_toArray, List.set_cons_zero, List.set_cons_succ]; first | done | exact rfl) | rfl)); (case' nextt186 => skip))
            (refine' GG.grow_lit (GG.OneW.still (by decide)) rfl ?wtt187 ?runt187 ?putt187 ?nextt187; (case wtt187 => rfl); (case runt187 => (intro w' hS; (obtain ⟨dn, s, hS⟩ := hS); (have hq := h3B hS); (have y0 := keep hq Z0.out); (have y1 := keep hq Z1.out); clear hS hq; go_simp; first | done | exact rfl)); (case putt187 => (first | (simp only [Act.put, List.setIfInBounds_toArray, List.set_cons_zero, List.set_cons_succ]; first | done | exact rfl) | rfl)); (case' nextt187 => skip))
            (refine' GG.grow_lit (GG.OneW.still (by decide)) rfl ?wtt188 ?runt188 ?putt188 ?nextt188; (case wtt188 => rfl); (case runt188 => (intro w' hS; (obtain ⟨dn, s, hS⟩ := hS); (have hq := h3B hS); (have y0 := keep hq Z0.out); (have y1 := keep hq Z1.out); clear hS hq; go_simp; first | done | exact rfl)); (case putt188 => (first | (simp only [Act.put, List.setIfInBounds_toArray, List.set_cons_zero, List.set_cons_succ]; first | done | exact rfl) | rfl)); (case' nextt188 => skip))
            (refine' GG.grow_lit (GG.OneW.still (by decide)) rfl ?wtt189 ?runt189 ?putt189 ?nextt189; (case wtt189 => rfl); (case runt189 => (intro w' hS; (obtain ⟨dn, s, hS⟩ := hS); (have hq := h3B hS); (have y0 := keep hq Z0.out); (have y1 := keep hq Z1.out); clear hS hq; go_simp; first | done | exact rfl)); (case putt189 => (first | (simp only [Act.put, List.setIfInBounds_toArray, List.set_cons_zero, List.set_cons_succ]; first | done | exact rfl) | rfl)); (case' nextt189 => skip))
            (refine' GG.grow_lit_call (u := .bool (putB 256 m xn y)) rfl Try.func10 (by kernel_rfl) rfl rfl ?wtt1810 ?runt1810 ?putt1810 ?nextt1810; (case wtt1810 => rfl); (case runt1810 => (intro dn s w' hS hd H; exact h3Put (hS.g0 hd).sw xn y kb0 kb1 y00 y01 (fun _ h => h.sw))); (case putt1810 => (first | (simp only [Act.put, List.setIfInBounds_toArray, List.set_cons_zero, List.set_cons_succ]; first | done | exact rfl) | rfl)); (case' nextt1810 => skip))
            intro dn s W2 hS hdn _
            have HA_ : Hid (H3 w W2.drew p q r m (putM 256 m xn y) mx) := Lib.hid ((hS.g1 (hdn 10 (by decide))).old (Below.refl _ _).drew)
            clear hS hdn HA
            have HA := HA_
            clear HA_
            go_wp2_with fail
            refine' GG.wp_growL _ (GG.OneW 11 (fun w' => H3 w w' p q r m (putM 256 m xn y) mx) (fun w' => H3 w w' p q r m (putM 256 m xn y) (putM 256 mx xd y))) [[], [], [], [1, 2], [1, 2, 3], [1, 2, 3, 4], [1, 2, 3, 4, 5], [], [], [7, 8], [7, 8, 9], [0, 1, 2, 3, 4, 5, 6, 7, 8, 9, 10]] (GG.Fact.lit (Rl := GG.RlW) _ :: GG.Fact.lit (Rl := GG.RlW) _ :: GG.Fact.lit (Rl := GG.RlW) _ :: GG.Fact.lit (Rl := GG.RlW) _ :: GG.Fact.lit (Rl := GG.RlW) _ :: GG.Fact.lit (Rl := GG.RlW) _ :: GG.Fact.lit (Rl := GG.RlW) _ :: GG.Fact.lit (Rl := GG.RlW) _ :: GG.Fact.lit (Rl := GG.RlW) _ :: GG.Fact.lit (Rl := GG.RlW) _ :: GG.Fact.lit (Rl := GG.RlW) _ :: GG.Fact.lit (Rl := GG.RlW) _ :: []) (by kernel_rfl) rfl (by kernel_rfl) (()) (GG.OneW.start (HA.out)) ?seqt19
            case' seqt19 => skip
            (refine' GG.grow_lit (GG.OneW.still (by decide)) rfl ?wtt190 ?runt190 ?putt190 ?nextt190; (case wtt190 => rfl); (case runt190 => (intro w' hS; (obtain ⟨dn, s, hS⟩ := hS); (have hq := h3B hS); (have y0 := keep hq Z0.out); (have y1 := keep hq Z1.out); clear hS hq; go_simp; first | done | exact rfl)); (case putt190 => (first | (simp only [Act.put, List.setIfInBounds_toArray, List.set_cons_zero, List.set_cons_succ]; first | done | exact rfl) | rfl)); (case' nextt190 => skip))
            (refine' GG.grow_lit (GG.OneW.still (by decide)) rfl ?wtt191 ?runt191 ?putt191 ?nextt191; (case wtt191 => rfl); (case runt191 => (intro w' hS; (obtain ⟨dn, s, hS⟩ := hS); (have hq := h3B hS); (have y0 := keep hq Z0.out); (have y1 := keep hq Z1.out); clear hS hq; go_simp; first | done | exact rfl)); (case putt191 => (first | (simp only [Act.put, List.setIfInBounds_toArray, List.set_cons_zero, List.set_cons_succ]; first | done | exact rfl) | rfl)); (case' nextt191 => skip))
            (refine' GG.grow_lit (GG.OneW.still (by decide)) rfl ?wtt192 ?runt192 ?putt192 ?nextt192; (case wtt192 => rfl); (case runt192 => (intro w' hS; (obtain ⟨dn, s, hS⟩ := hS); (have hq := h3B hS); (have y0 := keep hq Z0.out); (have y1 := keep hq Z1.out); clear hS hq; go_simp; first | done | exact rfl)); (case putt192 => (first | (simp only [Act.put, List.setIfInBounds_toArray, List.set_cons_zero, List.set_cons_succ]; first | done | exact rfl) | rfl)); (case' nextt192 => skip))
            (refine' GG.grow_lit (GG.OneW.still (by decide)) rfl ?wtt193 ?runt193 ?putt193 ?nextt193; (case wtt193 => rfl); (case runt193 => (intro w' hS; (obtain ⟨dn, s, hS⟩ := hS); (have hq := h3B hS); (have y0 := keep hq Z0.out); (have y1 := keep hq Z1.out); clear hS hq; go_simp; first | done | exact rfl)); (case putt193 => (first | (simp only [Act.put, List.setIfInBounds_toArray, List.set_cons_zero, List.set_cons_succ]; first | done | exact rfl) | rfl)); (case' nextt193 => skip))
            (refine' GG.grow_lit (GG.OneW.still (by decide)) rfl ?wtt194 ?runt194 ?putt194 ?nextt194; (case wtt194 => rfl); (case runt194 => (intro w' hS; (obtain ⟨dn, s, hS⟩ := hS); (have hq := h3B hS); (have y0 := keep hq Z0.out); (have y1 := keep hq Z1.out); clear hS hq; go_simp; first | done | exact rfl)); (case putt194 => (first | (simp only [Act.put, List.setIfInBounds_toArray, List.set_cons_zero, List.set_cons_succ]; first | done | exact rfl) | rfl)); (case' nextt194 => skip))
            (refine' GG.grow_lit (GG.OneW.still (by decide)) rfl ?wtt195 ?runt195 ?putt195 ?nextt195; (case wtt195 => rfl); (case runt195 => (intro w' hS; (obtain ⟨dn, s, hS⟩ := hS); (have hq := h3B hS); (have y0 := keep hq Z0.out); (have y1 := keep hq Z1.out); clear hS hq; go_simp; first | done | exact rfl)); (case putt195 => (first | (simp only [Act.put, List.setIfInBounds_toArray, List.set_cons_zero, List.set_cons_succ]; first | done | exact rfl) | rfl)); (case' nextt195 => skip))
            (refine' GG.grow_lit (GG.OneW.still (by decide)) rfl ?wtt196 ?runt196 ?putt196 ?nextt196; (case wtt196 => rfl); (case runt196 => (intro w' hS; (obtain ⟨dn, s, hS⟩ := hS); (have hq := h3B hS); (have y0 := keep hq Z0.out); (have y1 := keep hq Z1.out); clear hS hq; go_simp; first | done | exact rfl)); (case putt196 => (first | (simp only [Act.put, List.setIfInBounds_toArray, List.set_cons_zero, List.set_cons_succ]; first | done | exact rfl) | rfl)); (case' nextt196 => skip))
            (refine' GG.grow_lit (GG.OneW.still (by decide)) rfl ?wtt197 ?runt197 ?putt197 ?nextt197; (case wtt197 => rfl); (case runt197 => (intro w' hS; (obtain ⟨dn, s, hS⟩ := hS); (have hq := h3B hS); (have y0 := keep hq Z0.out); (have y1 := keep hq Z1.out); clear hS hq; go_simp; first | done | exact rfl)); (case putt197 => (first | (simp only [Act.put, List.setIfInBounds_toArray, List.set_cons_zero, List.set_cons_succ]; first | done | exact rfl) | rfl)); (case' nextt197 => skip))
            (refine' GG.grow_lit (GG.OneW.still (by decide)) rfl ?wtt198 ?runt198 ?putt198 ?nextt198; (case wtt198 => rfl); (case runt198 => (intro w' hS; (obtain ⟨dn, s, hS⟩ := hS); (have hq := h3B hS); (have y0 := keep hq Z0.out); (have y1 := keep hq Z1.out); clear hS hq; go_simp; first | done | exact rfl)); (case putt198 => (first | (simp only [Act.put, List.setIfInBounds_toArray, List.set_cons_zero, List.set_cons_succ]; first | done | exact rfl) | rfl)); (case' nextt198 => skip))
            (refine' GG.grow_lit (GG.OneW.still (by decide)) rfl ?wtt199 ?runt199 ?putt199 ?nextt199; (case wtt199 => rfl); (case runt199 => (intro w' hS; (obtain ⟨dn, s, hS⟩ := hS); (have hq := h3B hS); (have y0 := keep hq Z0.out); (have y1 := keep hq Z1.out); clear hS hq; go_simp; first | done | exact rfl)); (case putt199 => (first | (simp only [Act.put, List.setIfInBounds_toArray, List.set_cons_zero, List.set_cons_succ]; first | done | exact rfl) | rfl)); (case' nextt199 => skip))
            (refine' GG.grow_lit (GG.OneW.still (by decide)) rfl ?wtt1910 ?runt1910 ?putt1910 ?nextt1910; (case wtt1910 => rfl); (case runt1910 => (intro w' hS; (obtain ⟨dn, s, hS⟩ := hS); (have hq := h3B hS); (have y0 := keep hq Z0.out); (have y1 := keep hq Z1.out); clear hS hq; go_simp; first | done | exact rfl)); (case putt1910 => (first | (simp only [Act.put, List.setIfInBounds_toArray, List.set_cons_zero, List.set_cons_succ]; first | done | exact rfl) | rfl)); (case' nextt1910 => skip))
            (refine' GG.grow_lit_call (u := .bool (putB 256 mx xd y)) rfl Try.func10 (by kernel_rfl) rfl rfl ?wtt1911 ?runt1911 ?putt1911 ?nextt1911; (case wtt1911 => rfl); (case runt1911 => (intro dn s w' hS hd H; exact h3Put (hS.g0 hd).sw3 xd y kd0 kd1 y00 y01 (fun _ h => h.sw3))); (case putt1911 => (first | (simp only [Act.put, List.setIfInBounds_toArray, List.set_cons_zero, List.set_cons_succ]; first | done | exact rfl) | rfl)); (case' nextt1911 => skip))
            intro dn s W3 hS hdn _
            have HA_ : Hid (H3 w W3.drew p q r m (putM 256 m xn y) (putM 256 mx xd y)) := Lib.hid ((hS.g1 (hdn 11 (by decide))).old (Below.refl _ _).drew)
            clear hS hdn HA
            have HA := HA_
            clear HA_
            go_wp2_with fail
            by_cases hk0 : k = 0
            · have dk : ((k : Int) == 0) = true := by simpa using hk0
              have hFB := HTZ.out hk0
              clear hk0
              refine' GG.wp_growL _ (GG.OneW 10 (fun w' => H3 w w' p q r m (putM 256 m xn y) (putM 256 mx xd y)) (fun w' => H3 w w' p q r (putM 256 m xn y) (putM 256 m xn y) (putM 256 mx xd y))) [[], [], [], [1, 2], [1, 2, 3], [1, 2, 3, 4], [], [], [6, 7], [6, 7, 8], [0, 1, 2, 3, 4, 5, 6, 7, 8, 9], [], [11], [0, 1, 2, 3, 4, 5, 6, 7, 8, 9, 10, 11, 12], [0, 1, 2, 3, 4, 5, 6, 7, 8, 9, 10, 11, 12, 13], [0, 1, 2, 3, 4, 5, 6, 7, 8, 9, 10, 11, 12, 13], [0, 1, 2, 3, 4, 5, 6, 7, 8, 9, 10, 11, 12, 13, 14, 15], [0, 1, 2, 3, 4, 5, 6, 7, 8, 9, 10, 11, 12, 13], [0, 1, 2, 3, 4, 5, 6, 7, 8, 9, 10, 11, 12, 13], [0, 1, 2, 3, 4, 5, 6, 7, 8, 9, 10, 11, 12, 13, 17, 18], [0, 1, 2, 3, 4, 5, 6, 7, 8, 9, 10, 11, 12, 13, 17, 18, 19], [0, 1, 2, 3, 4, 5, 6, 7, 8, 9, 10, 11, 12, 13], [0, 1, 2, 3, 4, 5, 6, 7, 8, 9, 10, 11, 12, 13], [0, 1, 2, 3, 4, 5, 6, 7, 8, 9, 10, 11, 12, 13, 21, 22], [0, 1, 2, 3, 4, 5, 6, 7, 8, 9, 10, 11, 12, 13], [0, 1, 2, 3, 4, 5, 6, 7, 8, 9, 10, 11, 12, 13], [0, 1, 2, 3, 4, 5, 6, 7, 8, 9, 10, 11, 12, 13, 24, 25], [0, 1, 2, 3, 4, 5, 6, 7, 8, 9, 10, 11, 12, 13, 24, 25, 26], [0, 1, 2, 3, 4, 5, 6, 7, 8, 9, 10, 11, 12, 13, 14, 15, 16, 17, 18, 19, 20, 21, 22, 23, 24, 25, 26, 27], [0, 1, 2, 3, 4, 5, 6, 7, 8, 9, 10, 11, 12, 13, 14, 15, 16, 17, 18, 19, 20, 21, 22, 23, 24, 25, 26, 27, 28], [0, 1, 2, 3, 4, 5, 6, 7, 8, 9, 10, 11, 12, 13, 14, 15, 16, 17, 18, 19, 20, 21, 22, 23, 24, 25, 26, 27, 28, 29]] (GG.Fact.lit (Rl := GG.RlW) _ :: GG.Fact.lit (Rl := GG.RlW) _ :: GG.Fact.lit (Rl := GG.RlW) _ :: GG.Fact.lit (Rl := GG.RlW) _ :: GG.Fact.lit (Rl := GG.RlW) _ :: GG.Fact.lit (Rl := GG.RlW) _ :: GG.Fact.lit (Rl := GG.RlW) _ :: GG.Fact.lit (Rl := GG.RlW) _ :: GG.Fact.lit (Rl := GG.RlW) _ :: GG.Fact.lit (Rl := GG.RlW) _ :: GG.Fact.lit (Rl := GG.RlW) _ :: GG.Fact.lit (Rl := GG.RlW) _ :: GG.Fact.lit (Rl := GG.RlW) _ :: GG.Fact.lit (Rl := GG.RlW) _ :: GG.Fact.lit (Rl := GG.RlW) _ :: GG.Fact.lit (Rl := GG.RlW) _ :: GG.Fact.lit (Rl := GG.RlW) _ :: GG.Fact.lit (Rl := GG.RlW) _ :: GG.Fact.lit (Rl := GG.RlW) _ :: GG.Fact.lit (Rl := GG.RlW) _ :: GG.Fact.lit (Rl := GG.RlW) _ :: GG.Fact.lit (Rl := GG.RlW) _ :: GG.Fact.lit (Rl := GG.RlW) _ :: GG.Fact.lit (Rl := GG.RlW) _ :: GG.Fact.lit (Rl := GG.RlW) _ :: GG.Fact.lit (Rl := GG.RlW) _ :: GG.Fact.lit (Rl := GG.RlW) _ :: GG.Fact.lit (Rl := GG.RlW) _ :: GG.Fact.lit (Rl := GG.RlW) _ :: GG.Fact.lit (Rl := GG.RlW) _ :: GG.Fact.lit (Rl := GG.RlW) _ :: []) (by kernel_rfl) rfl (by kernel_rfl) (()) (GG.OneW.start (HA.out)) ?seqt20a
              case' seqt20a => skip
              (refine' GG.grow_lit (GG.OneW.still (by decide)) rfl ?wtt20a0 ?runt20a0 ?putt20a0 ?nextt20a0; (case wtt20a0 => rfl); (case runt20a0 => (intro w' hS; (obtain ⟨dn, s, hS⟩ := hS); (have hq := h3B hS); (have y0 := keep hq Z0.out); (have y1 := keep hq Z1.out); clear hS hq; go_simp; first | done | exact rfl)); (case putt20a0 => (first | (simp only [Act.put, List.setIfInBounds_toArray, List.set_cons_zero, List.set_cons_succ]; first | done | exact rfl) | rfl)); (case' nextt20a0 => skip))
              (refine' GG.grow_lit (GG.OneW.still (by decide)) rfl ?wtt20a1 ?runt20a1 ?putt20a1 ?nextt20a1; (case wtt20a1 => rfl); (case runt20a1 => (intro w' hS; (obtain ⟨dn, s, hS⟩ := hS); (have hq := h3B hS); (have y0 := keep hq Z0.out); (have y1 := keep hq Z1.out); clear hS hq; go_simp; first | done | exact rfl)); (case putt20a1 => (first | (simp only [Act.put, List.setIfInBounds_toArray, List.set_cons_zero, List.set_cons_succ]; first | done | exact rfl) | rfl)); (case' nextt20a1 => skip))
              (refine' GG.grow_lit (GG.OneW.still (by decide)) rfl ?wtt20a2 ?runt20a2 ?putt20a2 ?nextt20a2; (case wtt20a2 => rfl); (case runt20a2 => (intro w' hS; (obtain ⟨dn, s, hS⟩ := hS); (have hq := h3B hS); (have y0 := keep hq Z0.out); (have y1 := keep hq Z1.out); clear hS hq; go_simp; first | done | exact rfl)); (case putt20a2 => (first | (simp only [Act.put, List.setIfInBounds_toArray, List.set_cons_zero, List.set_cons_succ]; first | done | exact rfl) | rfl)); (case' nextt20a2 => skip))
              (refine' GG.grow_lit (GG.OneW.still (by decide)) rfl ?wtt20a3 ?runt20a3 ?putt20a3 ?nextt20a3; (case wtt20a3 => rfl); (case runt20a3 => (intro w' hS; (obtain ⟨dn, s, hS⟩ := hS); (have hq := h3B hS); (have y0 := keep hq Z0.out); (have y1 := keep hq Z1.out); clear hS hq; go_simp; first | done | exact rfl)); (case putt20a3 => (first | (simp only [Act.put, List.setIfInBounds_toArray, List.set_cons_zero, List.set_cons_succ]; first | done | exact rfl) | rfl)); (case' nextt20a3 => skip))
              (refine' GG.grow_lit (GG.OneW.still (by decide)) rfl ?wtt20a4 ?runt20a4 ?putt20a4 ?nextt20a4; (case wtt20a4 => rfl); (case runt20a4 => (intro w' hS; (obtain ⟨dn, s, hS⟩ := hS); (have hq := h3B hS); (have y0 := keep hq Z0.out); (have y1 := keep hq Z1.out); clear hS hq; go_simp; first | done | exact rfl)); (case putt20a4 => (first | (simp only [Act.put, List.setIfInBounds_toArray, List.set_cons_zero, List.set_cons_succ]; first | done | exact rfl) | rfl)); (case' nextt20a4 => skip))
              (refine' GG.grow_lit (GG.OneW.still (by decide)) rfl ?wtt20a5 ?runt20a5 ?putt20a5 ?nextt20a5; (case wtt20a5 => rfl); (case runt20a5 => (intro w' hS; (obtain ⟨dn, s, hS⟩ := hS); (have hq := h3B hS); (have y0 := keep hq Z0.out); (have y1 := keep hq Z1.out); clear hS hq; go_simp; first | done | exact rfl)); (case putt20a5 => (first | (simp only [Act.put, List.setIfInBounds_toArray, List.set_cons_zero, List.set_cons_succ]; first | done | exact rfl) | rfl)); (case' nextt20a5 => skip))
              (refine' GG.grow_lit (GG.OneW.still (by decide)) rfl ?wtt20a6 ?runt20a6 ?putt20a6 ?nextt20a6; (case wtt20a6 => rfl); (case runt20a6 => (intro w' hS; (obtain ⟨dn, s, hS⟩ := hS); (have hq := h3B hS); (have y0 := keep hq Z0.out); (have y1 := keep hq Z1.out); clear hS hq; go_simp; first | done | exact rfl)); (case putt20a6 => (first | (simp only [Act.put, List.setIfInBounds_toArray, List.set_cons_zero, List.set_cons_succ]; first | done | exact rfl) | rfl)); (case' nextt20a6 => skip))
              (refine' GG.grow_lit (GG.OneW.still (by decide)) rfl ?wtt20a7 ?runt20a7 ?putt20a7 ?nextt20a7; (case wtt20a7 => rfl); (case runt20a7 => (intro w' hS; (obtain ⟨dn, s, hS⟩ := hS); (have hq := h3B hS); (have y0 := keep hq Z0.out); (have y1 := keep hq Z1.out); clear hS hq; go_simp; first | done | exact rfl)); (case putt20a7 => (first | (simp only [Act.put, List.setIfInBounds_toArray, List.set_cons_zero, List.set_cons_succ]; first | done | exact rfl) | rfl)); (case' nextt20a7 => skip))
              (refine' GG.grow_lit (GG.OneW.still (by decide)) rfl ?wtt20a8 ?runt20a8 ?putt20a8 ?nextt20a8; (case wtt20a8 => rfl); (case runt20a8 => (intro w' hS; (obtain ⟨dn, s, hS⟩ := hS); (have hq := h3B hS); (have y0 := keep hq Z0.out); (have y1 := keep hq Z1.out); clear hS hq; go_simp; first | done | exact rfl)); (case putt20a8 => (first | (simp only [Act.put, List.setIfInBounds_toArray, List.set_cons_zero, List.set_cons_succ]; first | done | exact rfl) | rfl)); (case' nextt20a8 => skip))
              (refine' GG.grow_lit (GG.OneW.still (by decide)) rfl ?wtt20a9 ?runt20a9 ?putt20a9 ?nextt20a9; (case wtt20a9 => rfl); (case runt20a9 => (intro w' hS; (obtain ⟨dn, s, hS⟩ := hS); (have hq := h3B hS); (have y0 := keep hq Z0.out); (have y1 := keep hq Z1.out); clear hS hq; go_simp; first | done | exact rfl)); (case putt20a9 => (first | (simp only [Act.put, List.setIfInBounds_toArray, List.set_cons_zero, List.set_cons_succ]; first | done | exact rfl) | rfl)); (case' nextt20a9 => skip))
              (refine' GG.grow_lit_call (u := .bool true) rfl Try.func10 (by kernel_rfl) rfl rfl ?wtt20a10 ?runt20a10 ?putt20a10 ?nextt20a10; (case wtt20a10 => rfl); (case runt20a10 => (intro dn s w' hS hd H; exact h3PutB (hS.g0 hd) xn y kb0 kb1 y00 y01 (HPB.out.trans hFB) (fun _ h => h))); (case putt20a10 => (first | (simp only [Act.put, List.setIfInBounds_toArray, List.set_cons_zero, List.set_cons_succ]; first | done | exact rfl) | rfl)); (case' nextt20a10 => skip))
              (refine' GG.grow_lit (GG.OneW.still (by decide)) rfl ?wtt20a11 ?runt20a11 ?putt20a11 ?nextt20a11; (case wtt20a11 => rfl); (case runt20a11 => (intro w' hS; (obtain ⟨dn, s, hS⟩ := hS); (have hq := h3B hS); (have y0 := keep hq Z0.out); (have y1 := keep hq Z1.out); clear hS hq; go_simp; first | done | exact rfl)); (case putt20a11 => (first | (simp only [Act.put, List.setIfInBounds_toArray, List.set_cons_zero, List.set_cons_succ]; first | done | exact rfl) | rfl)); (case' nextt20a11 => skip))
              (refine' GG.grow_lit (GG.OneW.still (by decide)) rfl ?wtt20a12 ?runt20a12 ?putt20a12 ?nextt20a12; (case wtt20a12 => rfl); (case runt20a12 => (intro w' hS; (obtain ⟨dn, s, hS⟩ := hS); (have hq := h3B hS); (have y0 := keep hq Z0.out); (have y1 := keep hq Z1.out); clear hS hq; go_simp; first | done | exact rfl)); (case putt20a12 => (first | (simp only [Act.put, List.setIfInBounds_toArray, List.set_cons_zero, List.set_cons_succ]; first | done | exact rfl) | rfl)); (case' nextt20a12 => skip))
              (refine' GG.grow_lit (GG.OneW.still (by decide)) rfl ?wtt20a13 ?runt20a13 ?putt20a13 ?nextt20a13; (case wtt20a13 => rfl); (case runt20a13 => (intro w' hS; (obtain ⟨dn, s, hS⟩ := hS); (have hq := h3B hS); (have y0 := keep hq Z0.out); (have y1 := keep hq Z1.out); clear hS hq; go_simp; first | done | exact rfl)); (case putt20a13 => (first | (simp only [Act.put, List.setIfInBounds_toArray, List.set_cons_zero, List.set_cons_succ]; first | done | exact rfl) | rfl)); (case' nextt20a13 => skip))
              (refine' GG.grow_skip (GG.OneW.still (by decide)) rfl ?wtt20a14 ?putt20a14 ?nextt20a14; (case wtt20a14 => rfl); (case putt20a14 => (first | (simp only [Act.put, List.setIfInBounds_toArray, List.set_cons_zero, List.set_cons_succ]; first | done | exact rfl) | rfl)); (case' nextt20a14 => skip))
              (refine' GG.grow_skip (GG.OneW.still (by decide)) rfl ?wtt20a15 ?putt20a15 ?nextt20a15; (case wtt20a15 => rfl); (case putt20a15 => (first | (simp only [Act.put, List.setIfInBounds_toArray, List.set_cons_zero, List.set_cons_succ]; first | done | exact rfl) | rfl)); (case' nextt20a15 => skip))
              (refine' GG.grow_skip (GG.OneW.still (by decide)) rfl ?wtt20a16 ?putt20a16 ?nextt20a16; (case wtt20a16 => rfl); (case putt20a16 => (first | (simp only [Act.put, List.setIfInBounds_toArray, List.set_cons_zero, List.set_cons_succ]; first | done | exact rfl) | rfl)); (case' nextt20a16 => skip))
              (refine' GG.grow_skip (GG.OneW.still (by decide)) rfl ?wtt20a17 ?putt20a17 ?nextt20a17; (case wtt20a17 => rfl); (case putt20a17 => (first | (simp only [Act.put, List.setIfInBounds_toArray, List.set_cons_zero, List.set_cons_succ]; first | done | exact rfl) | rfl)); (case' nextt20a17 => skip))
              (refine' GG.grow_skip (GG.OneW.still (by decide)) rfl ?wtt20a18 ?putt20a18 ?nextt20a18; (case wtt20a18 => rfl); (case putt20a18 => (first | (simp only [Act.put, List.setIfInBounds_toArray, List.set_cons_zero, List.set_cons_succ]; first | done | exact rfl) | rfl)); (case' nextt20a18 => skip))
              (refine' GG.grow_skip (GG.OneW.still (by decide)) rfl ?wtt20a19 ?putt20a19 ?nextt20a19; (case wtt20a19 => rfl); (case putt20a19 => (first | (simp only [Act.put, List.setIfInBounds_toArray, List.set_cons_zero, List.set_cons_succ]; first | done | exact rfl) | rfl)); (case' nextt20a19 => skip))
              (refine' GG.grow_skip (GG.OneW.still (by decide)) rfl ?wtt20a20 ?putt20a20 ?nextt20a20; (case wtt20a20 => rfl); (case putt20a20 => (first | (simp only [Act.put, List.setIfInBounds_toArray, List.set_cons_zero, List.set_cons_succ]; first | done | exact rfl) | rfl)); (case' nextt20a20 => skip))
              (refine' GG.grow_skip (GG.OneW.still (by decide)) rfl ?wtt20a21 ?putt20a21 ?nextt20a21; (case wtt20a21 => rfl); (case putt20a21 => (first | (simp only [Act.put, List.setIfInBounds_toArray, List.set_cons_zero, List.set_cons_succ]; first | done | exact rfl) | rfl)); (case' nextt20a21 => skip))
              (refine' GG.grow_skip (GG.OneW.still (by decide)) rfl ?wtt20a22 ?putt20a22 ?nextt20a22; (case wtt20a22 => rfl); (case putt20a22 => (first | (simp only [Act.put, List.setIfInBounds_toArray, List.set_cons_zero, List.set_cons_succ]; first | done | exact rfl) | rfl)); (case' nextt20a22 => skip))
              (refine' GG.grow_skip (GG.OneW.still (by decide)) rfl ?wtt20a23 ?putt20a23 ?nextt20a23; (case wtt20a23 => rfl); (case putt20a23 => (first | (simp only [Act.put, List.setIfInBounds_toArray, List.set_cons_zero, List.set_cons_succ]; first | done | exact rfl) | rfl)); (case' nextt20a23 => skip))
              (refine' GG.grow_skip (GG.OneW.still (by decide)) rfl ?wtt20a24 ?putt20a24 ?nextt20a24; (case wtt20a24 => rfl); (case putt20a24 => (first | (simp only [Act.put, List.setIfInBounds_toArray, List.set_cons_zero, List.set_cons_succ]; first | done | exact rfl) | rfl)); (case' nextt20a24 => skip))
              (refine' GG.grow_skip (GG.OneW.still (by decide)) rfl ?wtt20a25 ?putt20a25 ?nextt20a25; (case wtt20a25 => rfl); (case putt20a25 => (first | (simp only [Act.put, List.setIfInBounds_toArray, List.set_cons_zero, List.set_cons_succ]; first | done | exact rfl) | rfl)); (case' nextt20a25 => skip))
              (refine' GG.grow_skip (GG.OneW.still (by decide)) rfl ?wtt20a26 ?putt20a26 ?nextt20a26; (case wtt20a26 => rfl); (case putt20a26 => (first | (simp only [Act.put, List.setIfInBounds_toArray, List.set_cons_zero, List.set_cons_succ]; first | done | exact rfl) | rfl)); (case' nextt20a26 => skip))
              (refine' GG.grow_skip (GG.OneW.still (by decide)) rfl ?wtt20a27 ?putt20a27 ?nextt20a27; (case wtt20a27 => rfl); (case putt20a27 => (first | (simp only [Act.put, List.setIfInBounds_toArray, List.set_cons_zero, List.set_cons_succ]; first | done | exact rfl) | rfl)); (case' nextt20a27 => skip))
              (refine' GG.grow_skip (GG.OneW.still (by decide)) rfl ?wtt20a28 ?putt20a28 ?nextt20a28; (case wtt20a28 => rfl); (case putt20a28 => (first | (simp only [Act.put, List.setIfInBounds_toArray, List.set_cons_zero, List.set_cons_succ]; first | done | exact rfl) | rfl)); (case' nextt20a28 => skip))
              (refine' GG.grow_lit (GG.OneW.still (by decide)) rfl ?wtt20a29 ?runt20a29 ?putt20a29 ?nextt20a29; (case wtt20a29 => rfl); (case runt20a29 => (intro w' hS; (obtain ⟨dn, s, hS⟩ := hS); (have hq := h3B hS); (have y0 := keep hq Z0.out); (have y1 := keep hq Z1.out); clear hS hq; go_simp; first | done | exact rfl)); (case putt20a29 => (first | (simp only [Act.put, List.setIfInBounds_toArray, List.set_cons_zero, List.set_cons_succ]; first | done | exact rfl) | rfl)); (case' nextt20a29 => skip))
              (refine' GG.grow_lit (GG.OneW.still (by decide)) rfl ?wtt20a30 ?runt20a30 ?putt20a30 ?nextt20a30; (case wtt20a30 => rfl); (case runt20a30 => (intro w' hS; (obtain ⟨dn, s, hS⟩ := hS); (have hq := h3B hS); (have y0 := keep hq Z0.out); (have y1 := keep hq Z1.out); clear hS hq; go_simp; first | done | exact rfl)); (case putt20a30 => (first | (simp only [Act.put, List.setIfInBounds_toArray, List.set_cons_zero, List.set_cons_succ]; first | done | exact rfl) | rfl)); (case' nextt20a30 => skip))
              intro dn s W4 hS hdn _
              have H_ := Lib.hid (hS.g1 (hdn 10 (by decide)))
              clear hS hdn HA
              rw [hFB] at HPB
              clear hFB
              go_wp2_with fail
              go_roundw
              case rel => exact ⟨k + 1, _, _, hlt, by go_num, H_.out, HTS.out⟩
              case measure => simp [intOf]; omega
            · have dk : ((k : Int) == 0) = false := by simpa using hk0
              have hkcu : (k : Int) ≤ (cu : Int) := by omega
              have hkcz : (k : Int) ≤ (cz : Int) := by omega
              clear hk0
              refine' GG.wp_growL _ (GG.OneW 10 (fun w' => H3 w w' p q r m (putM 256 m xn y) (putM 256 mx xd y)) (fun w' => H3 w w' p q r (putM 256 m xn y) (putM 256 m xn y) (putM 256 mx xd y))) [[], [], [], [1, 2], [1, 2, 3], [1, 2, 3, 4], [], [], [6, 7], [6, 7, 8], [0, 1, 2, 3, 4, 5, 6, 7, 8, 9], [], [11], [0, 1, 2, 3, 4, 5, 6, 7, 8, 9, 10, 11, 12], [0, 1, 2, 3, 4, 5, 6, 7, 8, 9, 10, 11, 12, 13], [0, 1, 2, 3, 4, 5, 6, 7, 8, 9, 10, 11, 12, 13], [0, 1, 2, 3, 4, 5, 6, 7, 8, 9, 10, 11, 12, 13, 14, 15], [0, 1, 2, 3, 4, 5, 6, 7, 8, 9, 10, 11, 12, 13], [0, 1, 2, 3, 4, 5, 6, 7, 8, 9, 10, 11, 12, 13], [0, 1, 2, 3, 4, 5, 6, 7, 8, 9, 10, 11, 12, 13, 17, 18], [0, 1, 2, 3, 4, 5, 6, 7, 8, 9, 10, 11, 12, 13, 17, 18, 19], [0, 1, 2, 3, 4, 5, 6, 7, 8, 9, 10, 11, 12, 13], [0, 1, 2, 3, 4, 5, 6, 7, 8, 9, 10, 11, 12, 13], [0, 1, 2, 3, 4, 5, 6, 7, 8, 9, 10, 11, 12, 13, 21, 22], [0, 1, 2, 3, 4, 5, 6, 7, 8, 9, 10, 11, 12, 13], [0, 1, 2, 3, 4, 5, 6, 7, 8, 9, 10, 11, 12, 13], [0, 1, 2, 3, 4, 5, 6, 7, 8, 9, 10, 11, 12, 13, 24, 25], [0, 1, 2, 3, 4, 5, 6, 7, 8, 9, 10, 11, 12, 13, 24, 25, 26], [0, 1, 2, 3, 4, 5, 6, 7, 8, 9, 10, 11, 12, 13, 14, 15, 16, 17, 18, 19, 20, 21, 22, 23, 24, 25, 26, 27], [0, 1, 2, 3, 4, 5, 6, 7, 8, 9, 10, 11, 12, 13, 14, 15, 16, 17, 18, 19, 20, 21, 22, 23, 24, 25, 26, 27, 28], [0, 1, 2, 3, 4, 5, 6, 7, 8, 9, 10, 11, 12, 13, 14, 15, 16, 17, 18, 19, 20, 21, 22, 23, 24, 25, 26, 27, 28, 29]] (GG.Fact.lit (Rl := GG.RlW) _ :: GG.Fact.lit (Rl := GG.RlW) _ :: GG.Fact.lit (Rl := GG.RlW) _ :: GG.Fact.lit (Rl := GG.RlW) _ :: GG.Fact.lit (Rl := GG.RlW) _ :: GG.Fact.lit (Rl := GG.RlW) _ :: GG.Fact.lit (Rl := GG.RlW) _ :: GG.Fact.lit (Rl := GG.RlW) _ :: GG.Fact.lit (Rl := GG.RlW) _ :: GG.Fact.lit (Rl := GG.RlW) _ :: GG.Fact.lit (Rl := GG.RlW) _ :: GG.Fact.lit (Rl := GG.RlW) _ :: GG.Fact.lit (Rl := GG.RlW) _ :: GG.Fact.lit (Rl := GG.RlW) _ :: GG.Fact.lit (Rl := GG.RlW) _ :: GG.Fact.lit (Rl := GG.RlW) _ :: GG.Fact.lit (Rl := GG.RlW) _ :: GG.Fact.lit (Rl := GG.RlW) _ :: GG.Fact.lit (Rl := GG.RlW) _ :: GG.Fact.lit (Rl := GG.RlW) _ :: GG.Fact.lit (Rl := GG.RlW) _ :: GG.Fact.lit (Rl := GG.RlW) _ :: GG.Fact.lit (Rl := GG.RlW) _ :: GG.Fact.lit (Rl := GG.RlW) _ :: GG.Fact.lit (Rl := GG.RlW) _ :: GG.Fact.lit (Rl := GG.RlW) _ :: GG.Fact.lit (Rl := GG.RlW) _ :: GG.Fact.lit (Rl := GG.RlW) _ :: GG.Fact.lit (Rl := GG.RlW) _ :: GG.Fact.lit (Rl := GG.RlW) _ :: GG.Fact.lit (Rl := GG.RlW) _ :: []) (by kernel_rfl) rfl (by kernel_rfl) (()) (GG.OneW.start (HA.out)) ?seqt20b
              case' seqt20b => skip
              (refine' GG.grow_lit (GG.OneW.still (by decide)) rfl ?wtt20b0 ?runt20b0 ?putt20b0 ?nextt20b0; (case wtt20b0 => rfl); (case runt20b0 => (intro w' hS; (obtain ⟨dn, s, hS⟩ := hS); (have hq := h3B hS); (have y0 := keep hq Z0.out); (have y1 := keep hq Z1.out); clear hS hq; go_simp; first | done | exact rfl)); (case putt20b0 => (first | (simp only [Act.put, List.setIfInBounds_toArray, List.set_cons_zero, List.set_cons_succ]; first | done | exact rfl) | rfl)); (case' nextt20b0 => skip))
              (refine' GG.grow_lit (GG.OneW.still (by decide)) rfl ?wtt20b1 ?runt20b1 ?putt20b1 ?nextt20b1; (case wtt20b1 => rfl); (case runt20b1 => (intro w' hS; (obtain ⟨dn, s, hS⟩ := hS); (have hq := h3B hS); (have y0 := keep hq Z0.out); (have y1 := keep hq Z1.out); clear hS hq; go_simp; first | done | exact rfl)); (case putt20b1 => (first | (simp only [Act.put, List.setIfInBounds_toArray, List.set_cons_zero, List.set_cons_succ]; first | done | exact rfl) | rfl)); (case' nextt20b1 => skip))
              (refine' GG.grow_lit (GG.OneW.still (by decide)) rfl ?wtt20b2 ?runt20b2 ?putt20b2 ?nextt20b2; (case wtt20b2 => rfl); (case runt20b2 => (intro w' hS; (obtain ⟨dn, s, hS⟩ := hS); (have hq := h3B hS); (have y0 := keep hq Z0.out); (have y1 := keep hq Z1.out); clear hS hq; go_simp; first | done | exact rfl)); (case putt20b2 => (first | (simp only [Act.put, List.setIfInBounds_toArray, List.set_cons_zero, List.set_cons_succ]; first | done | exact rfl) | rfl)); (case' nextt20b2 => skip))
              (refine' GG.grow_lit (GG.OneW.still (by decide)) rfl ?wtt20b3 ?runt20b3 ?putt20b3 ?nextt20b3; (case wtt20b3 => rfl); (case runt20b3 => (intro w' hS; (obtain ⟨dn, s, hS⟩ := hS); (have hq := h3B hS); (have y0 := keep hq Z0.out); (have y1 := keep hq Z1.out); clear hS hq; go_simp; first | done | exact rfl)); (case putt20b3 => (first | (simp only [Act.put, List.setIfInBounds_toArray, List.set_cons_zero, List.set_cons_succ]; first | done | exact rfl) | rfl)); (case' nextt20b3 => skip))
              (refine' GG.grow_lit (GG.OneW.still (by decide)) rfl ?wtt20b4 ?runt20b4 ?putt20b4 ?nextt20b4; (case wtt20b4 => rfl); (case runt20b4 => (intro w' hS; (obtain ⟨dn, s, hS⟩ := hS); (have hq := h3B hS); (have y0 := keep hq Z0.out); (have y1 := keep hq Z1.out); clear hS hq; go_simp; first | done | exact rfl)); (case putt20b4 => (first | (simp only [Act.put, List.setIfInBounds_toArray, List.set_cons_zero, List.set_cons_succ]; first | done | exact rfl) | rfl)); (case' nextt20b4 => skip))
              (refine' GG.grow_lit (GG.OneW.still (by decide)) rfl ?wtt20b5 ?runt20b5 ?putt20b5 ?nextt20b5; (case wtt20b5 => rfl); (case runt20b5 => (intro w' hS; (obtain ⟨dn, s, hS⟩ := hS); (have hq := h3B hS); (have y0 := keep hq Z0.out); (have y1 := keep hq Z1.out); clear hS hq; go_simp; first | done | exact rfl)); (case putt20b5 => (first | (simp only [Act.put, List.setIfInBounds_toArray, List.set_cons_zero, List.set_cons_succ]; first | done | exact rfl) | rfl)); (case' nextt20b5 => skip))
              (refine' GG.grow_lit (GG.OneW.still (by decide)) rfl ?wtt20b6 ?runt20b6 ?putt20b6 ?nextt20b6; (case wtt20b6 => rfl); (case runt20b6 => (intro w' hS; (obtain ⟨dn, s, hS⟩ := hS); (have hq := h3B hS); (have y0 := keep hq Z0.out); (have y1 := keep hq Z1.out); clear hS hq; go_simp; first | done | exact rfl)); (case putt20b6 => (first | (simp only [Act.put, List.setIfInBounds_toArray, List.set_cons_zero, List.set_cons_succ]; first | done | exact rfl) | rfl)); (case' nextt20b6 => skip))
              (refine' GG.grow_lit (GG.OneW.still (by decide)) rfl ?wtt20b7 ?runt20b7 ?putt20b7 ?nextt20b7; (case wtt20b7 => rfl); (case runt20b7 => (intro w' hS; (obtain ⟨dn, s, hS⟩ := hS); (have hq := h3B hS); (have y0 := keep hq Z0.out); (have y1 := keep hq Z1.out); clear hS hq; go_simp; first | done | exact rfl)); (case putt20b7 => (first | (simp only [Act.put, List.setIfInBounds_toArray, List.set_cons_zero, List.set_cons_succ]; first | done | exact rfl) | rfl)); (case' nextt20b7 => skip))
              (refine' GG.grow_lit (GG.OneW.still (by decide)) rfl ?wtt20b8 ?runt20b8 ?putt20b8 ?nextt20b8; (case wtt20b8 => rfl); (case runt20b8 => (intro w' hS; (obtain ⟨dn, s, hS⟩ := hS); (have hq := h3B hS); (have y0 := keep hq Z0.out); (have y1 := keep hq Z1.out); clear hS hq; go_simp; first | done | exact rfl)); (case putt20b8 => (first | (simp only [Act.put, List.setIfInBounds_toArray, List.set_cons_zero, List.set_cons_succ]; first | done | exact rfl) | rfl)); (case' nextt20b8 => skip))
              (refine' GG.grow_lit (GG.OneW.still (by decide)) rfl ?wtt20b9 ?runt20b9 ?putt20b9 ?nextt20b9; (case wtt20b9 => rfl); (case runt20b9 => (intro w' hS; (obtain ⟨dn, s, hS⟩ := hS); (have hq := h3B hS); (have y0 := keep hq Z0.out); (have y1 := keep hq Z1.out); clear hS hq; go_simp; first | done | exact rfl)); (case putt20b9 => (first | (simp only [Act.put, List.setIfInBounds_toArray, List.set_cons_zero, List.set_cons_succ]; first | done | exact rfl) | rfl)); (case' nextt20b9 => skip))
              (refine' GG.grow_lit_call (u := .bool FB) rfl Try.func10 (by kernel_rfl) rfl rfl ?wtt20b10 ?runt20b10 ?putt20b10 ?nextt20b10; (case wtt20b10 => rfl); (case runt20b10 => (intro dn s w' hS hd H; exact h3PutB (hS.g0 hd) xn y kb0 kb1 y00 y01 HPB.out (fun _ h => h))); (case putt20b10 => (first | (simp only [Act.put, List.setIfInBounds_toArray, List.set_cons_zero, List.set_cons_succ]; first | done | exact rfl) | rfl)); (case' nextt20b10 => skip))
              (refine' GG.grow_lit (GG.OneW.still (by decide)) rfl ?wtt20b11 ?runt20b11 ?putt20b11 ?nextt20b11; (case wtt20b11 => rfl); (case runt20b11 => (intro w' hS; (obtain ⟨dn, s, hS⟩ := hS); (have hq := h3B hS); (have y0 := keep hq Z0.out); (have y1 := keep hq Z1.out); clear hS hq; go_simp; first | done | exact rfl)); (case putt20b11 => (first | (simp only [Act.put, List.setIfInBounds_toArray, List.set_cons_zero, List.set_cons_succ]; first | done | exact rfl) | rfl)); (case' nextt20b11 => skip))
              (refine' GG.grow_lit (GG.OneW.still (by decide)) rfl ?wtt20b12 ?runt20b12 ?putt20b12 ?nextt20b12; (case wtt20b12 => rfl); (case runt20b12 => (intro w' hS; (obtain ⟨dn, s, hS⟩ := hS); (have hq := h3B hS); (have y0 := keep hq Z0.out); (have y1 := keep hq Z1.out); clear hS hq; go_simp; first | done | exact rfl)); (case putt20b12 => (first | (simp only [Act.put, List.setIfInBounds_toArray, List.set_cons_zero, List.set_cons_succ]; first | done | exact rfl) | rfl)); (case' nextt20b12 => skip))
              (refine' GG.grow_lit (GG.OneW.still (by decide)) rfl ?wtt20b13 ?runt20b13 ?putt20b13 ?nextt20b13; (case wtt20b13 => rfl); (case runt20b13 => (intro w' hS; (obtain ⟨dn, s, hS⟩ := hS); (have hq := h3B hS); (have y0 := keep hq Z0.out); (have y1 := keep hq Z1.out); clear hS hq; go_simp; first | done | exact rfl)); (case putt20b13 => (first | (simp only [Act.put, List.setIfInBounds_toArray, List.set_cons_zero, List.set_cons_succ]; first | done | exact rfl) | rfl)); (case' nextt20b13 => skip))
              (refine' GG.grow_lit (GG.OneW.still (by decide)) rfl ?wtt20b14 ?runt20b14 ?putt20b14 ?nextt20b14; (case wtt20b14 => rfl); (case runt20b14 => (intro w' hS; (obtain ⟨dn, s, hS⟩ := hS); (have hq := h3B hS); (have y0 := keep hq Z0.out); (have y1 := keep hq Z1.out); clear hS hq; go_simp; first | done | exact rfl)); (case putt20b14 => (first | (simp only [Act.put, List.setIfInBounds_toArray, List.set_cons_zero, List.set_cons_succ]; first | done | exact rfl) | rfl)); (case' nextt20b14 => skip))
              (refine' GG.grow_lit (GG.OneW.still (by decide)) rfl ?wtt20b15 ?runt20b15 ?putt20b15 ?nextt20b15; (case wtt20b15 => rfl); (case runt20b15 => (intro w' hS; (obtain ⟨dn, s, hS⟩ := hS); (have hq := h3B hS); (have y0 := keep hq Z0.out); (have y1 := keep hq Z1.out); clear hS hq; go_simp; first | done | exact rfl)); (case putt20b15 => (first | (simp only [Act.put, List.setIfInBounds_toArray, List.set_cons_zero, List.set_cons_succ]; first | done | exact rfl) | rfl)); (case' nextt20b15 => skip))
              (refine' GG.grow_lit (GG.OneW.still (by decide)) rfl ?wtt20b16 ?runt20b16 ?putt20b16 ?nextt20b16; (case wtt20b16 => rfl); (case runt20b16 => (intro w' hS; (obtain ⟨dn, s, hS⟩ := hS); (have hq := h3B hS); (have y0 := keep hq Z0.out); (have y1 := keep hq Z1.out); clear hS hq; go_simp; first | done | exact rfl)); (case putt20b16 => (first | (simp only [Act.put, List.setIfInBounds_toArray, List.set_cons_zero, List.set_cons_succ]; first | done | exact rfl) | rfl)); (case' nextt20b16 => skip))
              (refine' GG.grow_lit (GG.OneW.still (by decide)) rfl ?wtt20b17 ?runt20b17 ?putt20b17 ?nextt20b17; (case wtt20b17 => rfl); (case runt20b17 => (intro w' hS; (obtain ⟨dn, s, hS⟩ := hS); (have hq := h3B hS); (have y0 := keep hq Z0.out); (have y1 := keep hq Z1.out); clear hS hq; go_simp; first | done | exact rfl)); (case putt20b17 => (first | (simp only [Act.put, List.setIfInBounds_toArray, List.set_cons_zero, List.set_cons_succ]; first | done | exact rfl) | rfl)); (case' nextt20b17 => skip))
              (refine' GG.grow_lit (GG.OneW.still (by decide)) rfl ?wtt20b18 ?runt20b18 ?putt20b18 ?nextt20b18; (case wtt20b18 => rfl); (case runt20b18 => (intro w' hS; (obtain ⟨dn, s, hS⟩ := hS); (have hq := h3B hS); (have y0 := keep hq Z0.out); (have y1 := keep hq Z1.out); clear hS hq; go_simp; first | done | exact rfl)); (case putt20b18 => (first | (simp only [Act.put, List.setIfInBounds_toArray, List.set_cons_zero, List.set_cons_succ]; first | done | exact rfl) | rfl)); (case' nextt20b18 => skip))
              (refine' GG.grow_lit (GG.OneW.still (by decide)) rfl ?wtt20b19 ?runt20b19 ?putt20b19 ?nextt20b19; (case wtt20b19 => rfl); (case runt20b19 => (intro w' hS; (obtain ⟨dn, s, hS⟩ := hS); (have hq := h3B hS); (have y0 := keep hq Z0.out); (have y1 := keep hq Z1.out); clear hS hq; go_simp; first | done | exact rfl)); (case putt20b19 => (first | (simp only [Act.put, List.setIfInBounds_toArray, List.set_cons_zero, List.set_cons_succ]; first | done | exact rfl) | rfl)); (case' nextt20b19 => skip))
              (refine' GG.grow_lit (GG.OneW.still (by decide)) rfl ?wtt20b20 ?runt20b20 ?putt20b20 ?nextt20b20; (case wtt20b20 => rfl); (case runt20b20 => (intro w' hS; (obtain ⟨dn, s, hS⟩ := hS); (have hq := h3B hS); (have y0 := keep hq Z0.out); (have y1 := keep hq Z1.out); clear hS hq; go_simp; first | done | exact rfl)); (case putt20b20 => (first | (simp only [Act.put, List.setIfInBounds_toArray, List.set_cons_zero, List.set_cons_succ]; first | done | exact rfl) | rfl)); (case' nextt20b20 => skip))
              (refine' GG.grow_lit (GG.OneW.still (by decide)) rfl ?wtt20b21 ?runt20b21 ?putt20b21 ?nextt20b21; (case wtt20b21 => rfl); (case runt20b21 => (intro w' hS; (obtain ⟨dn, s, hS⟩ := hS); (have hq := h3B hS); (have y0 := keep hq Z0.out); (have y1 := keep hq Z1.out); clear hS hq; go_simp; first | done | exact rfl)); (case putt20b21 => (first | (simp only [Act.put, List.setIfInBounds_toArray, List.set_cons_zero, List.set_cons_succ]; first | done | exact rfl) | rfl)); (case' nextt20b21 => skip))
              (refine' GG.grow_lit (GG.OneW.still (by decide)) rfl ?wtt20b22 ?runt20b22 ?putt20b22 ?nextt20b22; (case wtt20b22 => rfl); (case runt20b22 => (intro w' hS; (obtain ⟨dn, s, hS⟩ := hS); (have hq := h3B hS); (have y0 := keep hq Z0.out); (have y1 := keep hq Z1.out); clear hS hq; go_simp; first | done | exact rfl)); (case putt20b22 => (first | (simp only [Act.put, List.setIfInBounds_toArray, List.set_cons_zero, List.set_cons_succ]; first | done | exact rfl) | rfl)); (case' nextt20b22 => skip))
              (refine' GG.grow_lit (GG.OneW.still (by decide)) rfl ?wtt20b23 ?runt20b23 ?putt20b23 ?nextt20b23; (case wtt20b23 => rfl); (case runt20b23 => (intro w' hS; (obtain ⟨dn, s, hS⟩ := hS); (have hq := h3B hS); (have y0 := keep hq Z0.out); (have y1 := keep hq Z1.out); clear hS hq; go_simp; first | done | exact rfl)); (case putt20b23 => (first | (simp only [Act.put, List.setIfInBounds_toArray, List.set_cons_zero, List.set_cons_succ]; first | done | exact rfl) | rfl)); (case' nextt20b23 => skip))
              (refine' GG.grow_lit (GG.OneW.still (by decide)) rfl ?wtt20b24 ?runt20b24 ?putt20b24 ?nextt20b24; (case wtt20b24 => rfl); (case runt20b24 => (intro w' hS; (obtain ⟨dn, s, hS⟩ := hS); (have hq := h3B hS); (have y0 := keep hq Z0.out); (have y1 := keep hq Z1.out); clear hS hq; go_simp; first | done | exact rfl)); (case putt20b24 => (first | (simp only [Act.put, List.setIfInBounds_toArray, List.set_cons_zero, List.set_cons_succ]; first | done | exact rfl) | rfl)); (case' nextt20b24 => skip))
              (refine' GG.grow_lit (GG.OneW.still (by decide)) rfl ?wtt20b25 ?runt20b25 ?putt20b25 ?nextt20b25; (case wtt20b25 => rfl); (case runt20b25 => (intro w' hS; (obtain ⟨dn, s, hS⟩ := hS); (have hq := h3B hS); (have y0 := keep hq Z0.out); (have y1 := keep hq Z1.out); clear hS hq; go_simp; first | done | exact rfl)); (case putt20b25 => (first | (simp only [Act.put, List.setIfInBounds_toArray, List.set_cons_zero, List.set_cons_succ]; first | done | exact rfl) | rfl)); (case' nextt20b25 => skip))
              (refine' GG.grow_lit (GG.OneW.still (by decide)) rfl ?wtt20b26 ?runt20b26 ?putt20b26 ?nextt20b26; (case wtt20b26 => rfl); (case runt20b26 => (intro w' hS; (obtain ⟨dn, s, hS⟩ := hS); (have hq := h3B hS); (have y0 := keep hq Z0.out); (have y1 := keep hq Z1.out); clear hS hq; go_simp; first | done | exact rfl)); (case putt20b26 => (first | (simp only [Act.put, List.setIfInBounds_toArray, List.set_cons_zero, List.set_cons_succ]; first | done | exact rfl) | rfl)); (case' nextt20b26 => skip))
              (refine' GG.grow_lit (GG.OneW.still (by decide)) rfl ?wtt20b27 ?runt20b27 ?putt20b27 ?nextt20b27; (case wtt20b27 => rfl); (case runt20b27 => (intro w' hS; (obtain ⟨dn, s, hS⟩ := hS); (have hq := h3B hS); (have y0 := keep hq Z0.out); (have y1 := keep hq Z1.out); clear hS hq; go_simp; first | done | exact rfl)); (case putt20b27 => (first | (simp only [Act.put, List.setIfInBounds_toArray, List.set_cons_zero, List.set_cons_succ]; first | done | exact rfl) | rfl)); (case' nextt20b27 => skip))
              (refine' GG.grow_lit_call (u := .bool FB) rfl Try.func19 (by kernel_rfl) rfl rfl ?wtt20b28 ?runt20b28 ?putt20b28 ?nextt20b28; (case wtt20b28 => rfl); (case runt20b28 => (intro dn s w' hS hd H; exact h3First hS (by decide) HU.out HZ.out (by omega) (by omega) (by omega) HIC.out xn y y00 y01 HFB.out)); (case putt20b28 => (first | (simp only [Act.put, List.setIfInBounds_toArray, List.set_cons_zero, List.set_cons_succ]; first | done | exact rfl) | rfl)); (case' nextt20b28 => skip))
              (refine' GG.grow_lit (GG.OneW.still (by decide)) rfl ?wtt20b29 ?runt20b29 ?putt20b29 ?nextt20b29; (case wtt20b29 => rfl); (case runt20b29 => (intro w' hS; (obtain ⟨dn, s, hS⟩ := hS); (have hq := h3B hS); (have y0 := keep hq Z0.out); (have y1 := keep hq Z1.out); clear hS hq; go_simp; first | done | exact rfl)); (case putt20b29 => (first | (simp only [Act.put, List.setIfInBounds_toArray, List.set_cons_zero, List.set_cons_succ]; first | done | exact rfl) | rfl)); (case' nextt20b29 => skip))
              (refine' GG.grow_lit (GG.OneW.still (by decide)) rfl ?wtt20b30 ?runt20b30 ?putt20b30 ?nextt20b30; (case wtt20b30 => rfl); (case runt20b30 => (intro w' hS; (obtain ⟨dn, s, hS⟩ := hS); (have hq := h3B hS); (have y0 := keep hq Z0.out); (have y1 := keep hq Z1.out); clear hS hq; go_simp; first | done | exact rfl)); (case putt20b30 => (first | (simp only [Act.put, List.setIfInBounds_toArray, List.set_cons_zero, List.set_cons_succ]; first | done | exact rfl) | rfl)); (case' nextt20b30 => skip))
              intro dn s W4 hS hdn _
              have H_ := Lib.hid (hS.g1 (hdn 10 (by decide)))
              clear hS hdn HA
              go_wp2_with fail
              go_roundw
              case rel => exact ⟨k + 1, _, _, hlt, by go_num, H_.out, HTS.out⟩
              case measure => simp [intOf]; omega
          · have hkl : ¬ (k : Int) < (l2.length : Int) := by omega
            have H := Lib.hid h
            clear h hlt htold
            go_wp2_with fail
            go_loopw [12] (fun _ wr => TwoC w p q r wr) (fun _ wr => rowLen wr p)
            case atStart => exact ⟨m, mx, H.out⟩
            case round =>
              obtain ⟨m, mx, h⟩ := hrel
              clear H
              obtain ⟨wz, rfl⟩ : ∃ wz : World, wz = wr := ⟨_, rfl⟩
              have HL0 := Lib.hid h.len
              rcases lst_spec m 256 with ⟨hl, -⟩ | ⟨x, hl, hx1, hx2, -⟩
              · have HV0 : Hid (popV 256 m = (0, 0, false)) := Lib.hid (by unfold popV; rw [hl])
                have H := Lib.hid h
                clear h hl
                go_wp2_with fail
                refine (h3pop H.out).mono ?_
                rw [HV0.out]
                unfold popT
                rintro e w6 ⟨rfl, h6⟩
                have H6 := Lib.hid h6
                clear h6
                go_wp2_with fail
                refine (h3pop H6.out.sw).mono ?_
                rw [HV0.out]
                unfold popT
                rintro e w7 ⟨rfl, h7⟩
                have HBB := Lib.hid h7.b
                clear h7
                go_wp2_with fail
                go_ret
                exact ⟨rfl, HBB.out⟩
              · have HV0 : Hid (popV 256 m = ((x.1 : Int), x.2, true)) := Lib.hid (by unfold popV; rw [hl])
                have HCN : Hid (cnt (popM 256 m) 256 < cnt m 256) := Lib.hid (by unfold popM; rw [hl]; have := cnt_pop hx1 hx2; show cnt (upd m x.1 none) 256 < _; omega)
                have H := Lib.hid h
                clear h hl hx1 hx2
                obtain ⟨xk, xc⟩ := x
                simp only [] at HV0
                go_wp2_with fail
                refine (h3pop H.out).mono ?_
                rw [HV0.out]
                unfold popT
                rintro e w6 ⟨rfl, h6⟩
                have H6 := Lib.hid h6
                clear h6
                go_wp2_with fail
                refine (h3pop H6.out.sw).mono ?_
                rw [HV0.out]
                unfold popT
                rintro e w7 ⟨rfl, h7⟩
                have H7 := Lib.hid h7.sw
                clear h7
                go_wp2_with fail
                go_roundw
                case rel => exact ⟨_, mx, H7.out⟩
                case measure => rw [HL0.out, H7.out.len]; exact HCN.out

set_option maxRecDepth 100000 in
theorem heapTwo_walks : WalksP 6 Try.f6 := by
  intro H enc W args ds g
  obtain ⟨ps, hA⟩ := g.reads
  obtain ⟨base, hval⟩ := g.okay
  rw [Try.params6] at hA hval
  obtain ⟨v0, vs0, d0, ds0, p0, q0, hargs, rfl, rfl, h0, r0⟩ := trodAll_cons hA
  obtain ⟨v1, vs1, d1, ds1, p1, q1, rfl, rfl, rfl, h1, r1⟩ := trodAll_cons r0
  obtain ⟨v2, vs2, d2, ds2, p2, q2, rfl, rfl, rfl, h2, r2⟩ := trodAll_cons r1
  obtain ⟨rfl, rfl, rfl⟩ := trodAll_nil r2
  obtain rfl : args = #[v0, v1, v2] := Array.toList_inj.1 hargs
  obtain ⟨x0, w0, u0⟩ := open_u8p (hval 0 35 v0 rfl rfl) h0
  obtain ⟨x1, w1, u1⟩ := open_u8p (hval 1 35 v1 rfl rfl) h1
  obtain ⟨x2, w2, u2⟩ := open_i64p (hval 2 36 v2 rfl rfl) h2
  exact two_walk v0 x0 v1 x1 v2 x2 W w0 u0 w1 u1 w2 u2

theorem heapTwo_row : Rows.HeapTwoSaid :=
  OpenClaim.holds_of_wide 6 Try.f6 rfl rfl rfl rfl rfl rfl rfl ⟨rfl, rfl, rfl, rfl, rfl⟩ rfl rfl rfl rfl rfl (by kernel_rfl) Try.func6 (by kernel_rfl)
    (of_decide_eq_true (by kernel_rfl)) (by unfold Func.isWrapper; rw [if_neg (of_decide_eq_false (by kernel_rfl))]; exact ⟨rfl, rfl⟩)
    (fun os started H enc _ => law_plain (s := Rows.heapTwoSpec) Try.func6 (by kernel_rfl) rfl (by kernel_rfl)
      (fun H ds hl => by
        rw [Try.params6] at hl
        match ds, hl with
        | [_, _, _], _ => exact ⟨rfl, rfl, rfl⟩)
      (by kernel_rfl) os started H enc
      (ChangeSpec.witness6 (enc := enc) (C := Try.checked) false ⟨#[], #[.slice none 0 0, .slice none 0 0, .slice none 0 0], []⟩ 8 (by kernel_rfl) (by kernel_rfl) (by kernel_rfl) (by kernel_rfl))
      heapTwo_walks)
#print axioms heapTwo_row

end Go.Proofs.Ytmbeelakkiodaaa
