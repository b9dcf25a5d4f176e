/-
  The law HeapPlays: whatever the calls, it answers true, and nothing that was there has turned.
-/
import Derived.Test.YtmbeelakkiodaaaSame7
import Derived.Test.YtmbeelakkiodaaaHpL
namespace Go.Proofs.Ytmbeelakkiodaaa
open Go.ChangeShapes Go.WideShapes Go.ChangeAt Go.RowKit

theorem h2same {X : Nat → Prop} {w0 w : World} {p q N : Nat} {m : Nat → Option Int} (h : H2 X w0 w p q N m m) (k : Int) : Calls Try.prog 15 #[hp p, hp q, .int .i64 k] w fun e w' => e = .returned (.bool true) ∧ Below w.heap.size w w' := by
  obtain ⟨h1, h2, S, T, h3, h4, h5⟩ := h
  exact same_any h3 h4 k
/-- HeapPlays at a round's head. -/
def PlayRel (w0 : World) (p N n : Nat) (vr vi : Value) (wr : World) : Prop := ∃ (k q : Nat) (m : Nat → Option Int), k ≤ n ∧ vi = .int .i64 k ∧ vr = hp q ∧ H2 (fun _ => False) w0 wr p q N m m
/-- Both heaps' Put, in a region that draws its order. -/
structure PutS (X : Nat → Prop) (w0 : World) (p q N : Nat) (m m' : Nat → Option Int) (bx : Nat) (cs : Array Value) (dn : Nat → Bool) (_ : Unit) (w : World) : Prop where
  h : H2 X w0 w p q N (if dn 5 = true then m' else m) (if dn 11 = true then m' else m)
  k : Blk w bx cs 29
  x : X bx
def RlP (_ : Unit) (_ : World) (_ : Unit) (_ : World) : Prop := True
theorem doneG_ne {dn : Nat → Bool} {i j : Nat} (h : j ≠ i) : GG.doneG dn i j = dn j := if_neg h
theorem doneG_at (dn : Nat → Bool) (i : Nat) : GG.doneG dn i i = true := if_pos rfl
namespace PutS
variable {X : Nat → Prop} {w0 w w' : World} {p q N : Nat} {m m' : Nat → Option Int} {bx : Nat} {cs : Array Value} {dn : Nat → Bool} {s : Unit}
theorem start (h : H2 X w0 w p q N m m) (k : Blk w bx cs 29) (hx : X bx) : PutS X w0 p q N m m' bx cs (fun _ => false) () w.drew := ⟨h.old (Below.refl _ _).drew, k.drew, hx⟩
theorem still {i : Nat} (h1 : 5 ≠ i) (h2 : 11 ≠ i) : GG.Still (PutS X w0 p q N m m' bx cs) RlP i :=
  ⟨fun dn _ _ h => ⟨by rw [doneG_ne h1, doneG_ne h2]; exact h.h, h.k, h.x⟩, fun _ _ => trivial⟩
end PutS

set_option maxHeartbeats 16000000 in
set_option maxRecDepth 100000 in
theorem plays_walk (n : Int) (v : Value) (l : List Tri) (w : World) (n0 : -9223372036854775808 ≤ n) (n1 : n ≤ 9223372036854775807) (hv : Tris w v l) (hin : InTri l) :
    Calls Try.prog 3 #[.int .i64 n, v] w fun e w' => e = .returned (.bool true) ∧ Below w.heap.size w w' := by
  obtain ⟨qv, cv, rfl⟩ := hv.shape
  have HV := Lib.hid hv
  have HIN := Lib.hid hin
  have hll := hv.le
  clear hv hin
  by_cases hbig : 300 < n ∨ 120 < l.length
  · have hor : decide (300 < n) = true ∨ (¬ 300 < n ∧ 120 < (l.length : Int)) := by
      by_cases e : 300 < n
      · exact Or.inl (decide_eq_true e)
      · exact Or.inr ⟨e, by omega⟩
    clear hbig
    rcases hor with hor | ⟨hor, hor2⟩
    all_goals
      go_enter Try.func3, Try.ntmps3
      go_wp2_with fail
      refine (known7 _).mono ?_
      rintro e w1 ⟨rfl, hb⟩
      go_wp2_with fail
      go_ret
      exact ⟨rfl, hb⟩
  · have h300 : ¬ 300 < n := fun e => hbig (Or.inl e)
    have h120 : ¬ 120 < l.length := fun e => hbig (Or.inr e)
    have h120i : ¬ (120 : Int) < (l.length : Int) := by omega
    obtain ⟨N, hN⟩ : ∃ N, keysN n = N := ⟨_, rfl⟩
    have HN := Lib.hid hN
    clear hN hbig
    go_enter Try.func3, Try.ntmps3
    go_wp2_with fail
    refine (known7 _).mono ?_
    rintro e w1 ⟨rfl, hb⟩
    have HB := Lib.hid hb
    clear hb
    go_wp2_with fail
    refine (h1new n w w1 HB.out n0 n1).mono ?_
    rintro e w2 ⟨p, rfl, h⟩
    rw [HN.out] at h
    have H := Lib.hid h
    clear h
    go_wp2_with fail
    refine (h2first H.out n HN.out).mono ?_
    rintro e w3 ⟨q, rfl, h⟩
    clear H
    have H := Lib.hid h
    clear h
    go_wp2_with fail
    go_loopw [6, 7] (fun vr vi wr => PlayRel w p N l.length vr vi wr) (fun _ vi _ => l.length - (intOf vi).toNat)
    case atStart => exact ⟨0, q, _, Nat.zero_le _, rfl, rfl, H.out⟩
    case round =>
      obtain ⟨k, q, m, hk, rfl, rfl, h⟩ := hrel
      clear H
      obtain ⟨wo, rfl⟩ : ∃ wo : World, wo = wr := ⟨_, rfl⟩
      by_cases hlt : k < l.length
      · obtain ⟨x, hx⟩ : ∃ x, l[k] = x := ⟨_, rfl⟩
        obtain ⟨b, o, rfl, y0, y1, y2⟩ := HV.out.at hlt
        obtain ⟨⟨i0, i1⟩, ⟨i2, i3⟩, i4, i5⟩ := HIN.out _ (List.getElem_mem hlt)
        rw [hx] at y0 y1 y2 i0 i1 i2 i3 i4 i5
        obtain ⟨xk, xi, xc⟩ := x
        simp only [] at y0 y1 y2 i0 i1 i2 i3 i4 i5
        have z0 := keep h.b y0
        have z1 := keep h.b y1
        have z2 := keep h.b y2
        have hki : (k : Int) < (l.length : Int) := by omega
        have H0 := Lib.hid (h.box (.cells #[.int .i64 xk, .int .i64 xi, .int .i64 xc] 29))
        have hkx : Blk (wo.alloc (.cells #[.int .i64 xk, .int .i64 xi, .int .i64 xc] 29)) wo.heap.size #[.int .i64 xk, .int .i64 xi, .int .i64 xc] 29 := Blk.new _ _ _ _ rfl
        have HK0 := Lib.hid hkx
        obtain ⟨W1, hW1⟩ := named (wo.alloc (.cells #[.int .i64 xk, .int .i64 xi, .int .i64 xc] 29))
        have HW1 := Lib.hid hW1.symm
        rw [← hW1] at H0 HK0
        clear h y0 y1 y2 hkx hW1 hx
        by_cases e0 : xk = 0
        · subst e0
          go_wp2_with fail
          rw [HW1.out]
          clear z0 z1 z2
          have HS0 : Hid (PutS (fun b => b = wo.heap.size) w p q N m (putM N m xi xc) wo.heap.size #[.int .i64 0, .int .i64 xi, .int .i64 xc] (fun _ => false) () W1.drew) := Lib.hid (PutS.start H0.out HK0.out rfl)
          refine' GG.wp_growL _ (PutS (fun b => b = wo.heap.size) w p q N m (putM N m xi xc) wo.heap.size #[.int .i64 0, .int .i64 xi, .int .i64 xc]) [[], [], [1], [], [3], [0, 1, 2, 3, 4], [], [], [7], [], [9], [0, 1, 2, 3, 4, 5, 6, 7, 8, 9, 10], [0, 1, 2, 3, 4, 5, 6, 7, 8, 9, 10, 11]] (GG.Fact.lit (Rl := RlP) _ :: GG.Fact.lit (Rl := RlP) _ :: GG.Fact.lit (Rl := RlP) _ :: GG.Fact.lit (Rl := RlP) _ :: GG.Fact.lit (Rl := RlP) _ :: GG.Fact.lit (Rl := RlP) _ :: GG.Fact.lit (Rl := RlP) _ :: GG.Fact.lit (Rl := RlP) _ :: GG.Fact.lit (Rl := RlP) _ :: GG.Fact.lit (Rl := RlP) _ :: GG.Fact.lit (Rl := RlP) _ :: GG.Fact.lit (Rl := RlP) _ :: GG.Fact.lit (Rl := RlP) _ :: []) (by kernel_rfl) rfl (by kernel_rfl) (()) (HS0.out) ?seqpl
          case' seqpl => skip
          (refine' GG.grow_lit (PutS.still (by decide) (by decide)) rfl ?wtpl0 ?runpl0 ?putpl0 ?nextpl0; (case wtpl0 => rfl); (case runpl0 => (intro w' hS; (obtain ⟨dn, s, hS⟩ := hS); (obtain ⟨x0, x1, x2, -, -, -⟩ := hS.k.o3); clear hS; go_simp; first | done | exact rfl)); (case putpl0 => (first | (simp only [Act.put, List.setIfInBounds_toArray, List.set_cons_zero, List.set_cons_succ]; first | done | exact rfl) | rfl)); (case' nextpl0 => skip))
          (refine' GG.grow_lit (PutS.still (by decide) (by decide)) rfl ?wtpl1 ?runpl1 ?putpl1 ?nextpl1; (case wtpl1 => rfl); (case runpl1 => (intro w' hS; (obtain ⟨dn, s, hS⟩ := hS); (obtain ⟨x0, x1, x2, -, -, -⟩ := hS.k.o3); clear hS; go_simp; first | done | exact rfl)); (case putpl1 => (first | (simp only [Act.put, List.setIfInBounds_toArray, List.set_cons_zero, List.set_cons_succ]; first | done | exact rfl) | rfl)); (case' nextpl1 => skip))
          (refine' GG.grow_lit (PutS.still (by decide) (by decide)) rfl ?wtpl2 ?runpl2 ?putpl2 ?nextpl2; (case wtpl2 => rfl); (case runpl2 => (intro w' hS; (obtain ⟨dn, s, hS⟩ := hS); (obtain ⟨x0, x1, x2, -, -, -⟩ := hS.k.o3); clear hS; go_simp; first | done | exact rfl)); (case putpl2 => (first | (simp only [Act.put, List.setIfInBounds_toArray, List.set_cons_zero, List.set_cons_succ]; first | done | exact rfl) | rfl)); (case' nextpl2 => skip))
          (refine' GG.grow_lit (PutS.still (by decide) (by decide)) rfl ?wtpl3 ?runpl3 ?putpl3 ?nextpl3; (case wtpl3 => rfl); (case runpl3 => (intro w' hS; (obtain ⟨dn, s, hS⟩ := hS); (obtain ⟨x0, x1, x2, -, -, -⟩ := hS.k.o3); clear hS; go_simp; first | done | exact rfl)); (case putpl3 => (first | (simp only [Act.put, List.setIfInBounds_toArray, List.set_cons_zero, List.set_cons_succ]; first | done | exact rfl) | rfl)); (case' nextpl3 => skip))
          (refine' GG.grow_lit (PutS.still (by decide) (by decide)) rfl ?wtpl4 ?runpl4 ?putpl4 ?nextpl4; (case wtpl4 => rfl); (case runpl4 => (intro w' hS; (obtain ⟨dn, s, hS⟩ := hS); (obtain ⟨x0, x1, x2, -, -, -⟩ := hS.k.o3); clear hS; go_simp; first | done | exact rfl)); (case putpl4 => (first | (simp only [Act.put, List.setIfInBounds_toArray, List.set_cons_zero, List.set_cons_succ]; first | done | exact rfl) | rfl)); (case' nextpl4 => skip))
          (refine' GG.grow_lit_call (u := .bool (putB N m xi xc)) rfl Try.func10 (by kernel_rfl) rfl rfl ?wtpl5 ?runpl5 ?putpl5 ?nextpl5; (case wtpl5 => rfl); (case runpl5 => (intro dn s w' hS hd H; have hq := hS.h; rw [hd, if_neg (by simp)] at hq; exact (h2put hq xi xc i2 i3 i4 i5).mono (fun e w2 ⟨a1, a2, a3⟩ => ⟨(), a1, ⟨by rw [doneG_at, doneG_ne (by decide), if_pos rfl]; exact a2, a3.blk hS.k hS.x, hS.x⟩, trivial, a3.size⟩))); (case putpl5 => (first | (simp only [Act.put, List.setIfInBounds_toArray, List.set_cons_zero, List.set_cons_succ]; first | done | exact rfl) | rfl)); (case' nextpl5 => skip))
          (refine' GG.grow_lit (PutS.still (by decide) (by decide)) rfl ?wtpl6 ?runpl6 ?putpl6 ?nextpl6; (case wtpl6 => rfl); (case runpl6 => (intro w' hS; (obtain ⟨dn, s, hS⟩ := hS); (obtain ⟨x0, x1, x2, -, -, -⟩ := hS.k.o3); clear hS; go_simp; first | done | exact rfl)); (case putpl6 => (first | (simp only [Act.put, List.setIfInBounds_toArray, List.set_cons_zero, List.set_cons_succ]; first | done | exact rfl) | rfl)); (case' nextpl6 => skip))
          (refine' GG.grow_lit (PutS.still (by decide) (by decide)) rfl ?wtpl7 ?runpl7 ?putpl7 ?nextpl7; (case wtpl7 => rfl); (case runpl7 => (intro w' hS; (obtain ⟨dn, s, hS⟩ := hS); (obtain ⟨x0, x1, x2, -, -, -⟩ := hS.k.o3); clear hS; go_simp; first | done | exact rfl)); (case putpl7 => (first | (simp only [Act.put, List.setIfInBounds_toArray, List.set_cons_zero, List.set_cons_succ]; first | done | exact rfl) | rfl)); (case' nextpl7 => skip))
          (refine' GG.grow_lit (PutS.still (by decide) (by decide)) rfl ?wtpl8 ?runpl8 ?putpl8 ?nextpl8; (case wtpl8 => rfl); (case runpl8 => (intro w' hS; (obtain ⟨dn, s, hS⟩ := hS); (obtain ⟨x0, x1, x2, -, -, -⟩ := hS.k.o3); clear hS; go_simp; first | done | exact rfl)); (case putpl8 => (first | (simp only [Act.put, List.setIfInBounds_toArray, List.set_cons_zero, List.set_cons_succ]; first | done | exact rfl) | rfl)); (case' nextpl8 => skip))
          (refine' GG.grow_lit (PutS.still (by decide) (by decide)) rfl ?wtpl9 ?runpl9 ?putpl9 ?nextpl9; (case wtpl9 => rfl); (case runpl9 => (intro w' hS; (obtain ⟨dn, s, hS⟩ := hS); (obtain ⟨x0, x1, x2, -, -, -⟩ := hS.k.o3); clear hS; go_simp; first | done | exact rfl)); (case putpl9 => (first | (simp only [Act.put, List.setIfInBounds_toArray, List.set_cons_zero, List.set_cons_succ]; first | done | exact rfl) | rfl)); (case' nextpl9 => skip))
          (refine' GG.grow_lit (PutS.still (by decide) (by decide)) rfl ?wtpl10 ?runpl10 ?putpl10 ?nextpl10; (case wtpl10 => rfl); (case runpl10 => (intro w' hS; (obtain ⟨dn, s, hS⟩ := hS); (obtain ⟨x0, x1, x2, -, -, -⟩ := hS.k.o3); clear hS; go_simp; first | done | exact rfl)); (case putpl10 => (first | (simp only [Act.put, List.setIfInBounds_toArray, List.set_cons_zero, List.set_cons_succ]; first | done | exact rfl) | rfl)); (case' nextpl10 => skip))
          (refine' GG.grow_lit_call (u := .bool (putB N m xi xc)) rfl Try.func11 (by kernel_rfl) rfl rfl ?wtpl11 ?runpl11 ?putpl11 ?nextpl11; (case wtpl11 => rfl); (case runpl11 => (intro dn s w' hS hd H; have hq := hS.h; rw [hd, if_neg (c := false = true) (by simp)] at hq; exact (h2rput hq xi xc i4 i5).mono (fun e w2 ⟨a1, a2, a3⟩ => ⟨(), a1, ⟨by rw [doneG_at, doneG_ne (by decide), if_pos (c := true = true) rfl]; exact a2, a3.blk hS.k hS.x, hS.x⟩, trivial, a3.size⟩))); (case putpl11 => (first | (simp only [Act.put, List.setIfInBounds_toArray, List.set_cons_zero, List.set_cons_succ]; first | done | exact rfl) | rfl)); (case' nextpl11 => skip))
          (refine' GG.grow_lit (PutS.still (by decide) (by decide)) rfl ?wtpl12 ?runpl12 ?putpl12 ?nextpl12; (case wtpl12 => rfl); (case runpl12 => (intro w' hS; (obtain ⟨dn, s, hS⟩ := hS); (obtain ⟨x0, x1, x2, -, -, -⟩ := hS.k.o3); clear hS; go_simp; first | done | exact rfl)); (case putpl12 => (first | (simp only [Act.put, List.setIfInBounds_toArray, List.set_cons_zero, List.set_cons_succ]; first | done | exact rfl) | rfl)); (case' nextpl12 => skip))
          intro dn s W2 hS hdn _
          have H2_ : Hid (H2 (fun b => b = wo.heap.size) w W2 p q N (putM N m xi xc) (putM N m xi xc)) := Lib.hid (by have := hS.h; rw [hdn 5 (by decide), hdn 11 (by decide), if_pos rfl] at this; exact this)
          have KX := Lib.hid hS.k
          clear hS hdn H0 HK0 HS0
          obtain ⟨x0, x1, x2, -, -, -⟩ := KX.out.o3
          go_wp2_with fail
          refine (h2same H2_.out xi).mono ?_
          rintro e w9 ⟨rfl, hb9⟩
          have HR := Lib.hid (H2_.out.old hb9).unbox
          clear hb9 x0 x1 x2
          go_wp2_with fail
          go_roundw
          case rel => exact ⟨k + 1, q, _, hlt, by go_num, rfl, HR.out⟩
          case measure => simp [intOf]; omega
        · have d0 : (xk == 0) = false := by simpa using e0
          by_cases e1 : xk = 1
          · subst e1
            obtain ⟨A, B, O, hABO⟩ : ∃ A B O, popV N m = (A, B, O) := ⟨_, _, _, rfl⟩
            have HABO := Lib.hid hABO
            clear hABO
            go_wp2_with fail
            rw [HW1.out]
            clear z0 z1 z2
            refine (h2pop H0.out).mono ?_
            rw [HABO.out]
            unfold popT
            rintro e w4 ⟨rfl, h4, hk4⟩
            have H4 := Lib.hid h4
            have K4 := Lib.hid (hk4.blk HK0.out rfl)
            clear h4 hk4 H0 HK0
            go_wp2_with fail
            refine (h2rpop H4.out).mono ?_
            rw [HABO.out]
            unfold popT
            rintro e W2 ⟨rfl, h5, hk5⟩
            have H2_ := Lib.hid h5
            have KX := Lib.hid (hk5.blk K4.out rfl)
            clear h5 hk5 H4 K4
            obtain ⟨x0, x1, x2, -, -, -⟩ := KX.out.o3
            go_wp2_with fail
            refine (h2same H2_.out xi).mono ?_
            rintro e w9 ⟨rfl, hb9⟩
            have HR := Lib.hid (H2_.out.old hb9).unbox
            clear hb9 x0 x1 x2
            go_wp2_with fail
            go_roundw
            case rel => exact ⟨k + 1, q, _, hlt, by go_num, rfl, HR.out⟩
            case measure => simp [intOf]; omega
          · have d1 : (xk == 1) = false := by simpa using e1
            by_cases e3 : xk = 3
            · subst e3
              go_wp2_with fail
              rw [HW1.out]
              clear z0 z1 z2
              refine (h2clear H0.out).mono ?_
              rintro e w4 ⟨rfl, h4, hk4⟩
              have H4 := Lib.hid h4
              have K4 := Lib.hid (hk4.blk HK0.out rfl)
              clear h4 hk4 H0 HK0
              go_wp2_with fail
              refine (h2rnew H4.out n HN.out).mono ?_
              rintro e W2 ⟨q2, rfl, h5, hk5⟩
              have H2_ := Lib.hid h5
              have KX := Lib.hid (hk5.blk K4.out rfl)
              clear h5 hk5 H4 K4
              obtain ⟨x0, x1, x2, -, -, -⟩ := KX.out.o3
              go_wp2_with fail
              refine (h2same H2_.out xi).mono ?_
              rintro e w9 ⟨rfl, hb9⟩
              have HR := Lib.hid (H2_.out.old hb9).unbox
              clear hb9 x0 x1 x2
              go_wp2_with fail
              go_roundw
              case rel => exact ⟨k + 1, q2, _, hlt, by go_num, rfl, HR.out⟩
              case measure => simp [intOf]; omega
            · have d3 : (xk == 3) = false := by simpa using e3
              have H2_ := H0
              have KX := HK0
              clear H0 HK0
              obtain ⟨W2, hW2⟩ := named W1
              rw [← hW2] at H2_ KX
              have HW2 := Lib.hid hW2.symm
              clear hW2
              go_wp2_with fail
              rw [HW1.out, HW2.out]
              refine (h2same H2_.out xi).mono ?_
              rintro e w9 ⟨rfl, hb9⟩
              have HR := Lib.hid (H2_.out.old hb9).unbox
              clear hb9
              go_wp2_with fail
              go_roundw
              case rel => exact ⟨k + 1, q, _, hlt, by go_num, rfl, HR.out⟩
              case measure => simp [intOf]; omega
      · have hkl : ¬ (k : Int) < (l.length : Int) := by omega
        have HBB := Lib.hid h.b
        clear h hlt
        go_wp2_with fail
        go_ret
        exact ⟨rfl, HBB.out⟩

set_option maxRecDepth 100000 in
theorem heapPlays_walks : WalksP 3 Try.f3 := by
  intro H enc W args ds g
  obtain ⟨ps, hA⟩ := g.reads
  obtain ⟨base, hval⟩ := g.okay
  rw [Try.params3] at hA hval
  obtain ⟨v0, vs0, d0, ds0, p0, q0, hargs, rfl, rfl, h0, r0⟩ := trodAll_cons hA
  obtain ⟨v1, vs1, d1, ds1, p1, q1, rfl, rfl, rfl, h1, r1⟩ := trodAll_cons r0
  obtain ⟨rfl, rfl, rfl⟩ := trodAll_nil r1
  obtain rfl : args = #[v0, v1] := Array.toList_inj.1 hargs
  obtain ⟨x0, rfl, rfl, rfl, w0⟩ := open_int Try.underlying3 (hval 0 3 v0 rfl rfl) h0
  obtain ⟨x1, w1, u1⟩ := open_acts (hval 1 22 v1 rfl rfl) h1
  exact plays_walk x0 v1 x1 W (wf64 w0).1 (wf64 w0).2 w1 u1

theorem heapPlays_row : Rows.HeapPlaysSaid :=
  OpenClaim.holds_of_wide 3 Try.f3 rfl rfl rfl rfl rfl rfl rfl ⟨rfl, rfl, rfl, rfl, rfl⟩ rfl rfl rfl rfl rfl (by kernel_rfl) Try.func3 (by kernel_rfl)
    (of_decide_eq_true (by kernel_rfl)) (by unfold Func.isWrapper; rw [if_neg (of_decide_eq_false (by kernel_rfl))]; exact ⟨rfl, rfl⟩)
    (fun os started H enc _ => law_plain (s := Rows.heapPlaysSpec) Try.func3 (by kernel_rfl) rfl (by kernel_rfl)
      (fun H ds hl => by
        rw [Try.params3] at hl
        match ds, hl with
        | [_, _], _ => exact ⟨rfl, rfl, rfl⟩)
      (by kernel_rfl) os started H enc
      (ChangeSpec.witness6 (enc := enc) (C := Try.checked) false ⟨#[], #[.int .i64 0, .slice none 0 0], []⟩ 8 (by kernel_rfl) (by kernel_rfl) (by kernel_rfl) (by kernel_rfl))
      heapPlays_walks)
#print axioms heapPlays_row

end Go.Proofs.Ytmbeelakkiodaaa
