/-
  PROVED: as many arcs as may be end, or begin, at one vertex; one more is too many. For every number and both ways. Conditions: the listed library variable holds what the program's own text lays (the card ties it).
-/
import Derived.Test.YtbdompngabokgaaDoorKnown3
import Derived.Test.YtbdompngabokgaaDoorNetIn
import Derived.Test.YtbdompngabokgaaDoorLaid2
import Derived.Test.YtbdompngabokgaaDoorCards
import Derived.Test.YtbdompngabokgaaDoorTie
import Derived.SevenTiedAt
import Derived.Test.YtbdompngabokgaaDoorLaw3R
namespace Go.Proofs.YtbdompngabokgaaDoor
open Go.ChangeShapes Go.WideShapes Go.ChangeAt Go.RowKit

def degV (d : Nat) : List Tri := (0, 0, 0) :: (List.range d).map (fun i : Nat => ((i : Int), (0 : Int), (1 : Int)))
def degA (b : Bool) (d : Nat) : List Tri := (List.range d).map (fun i : Nat => if b then ((i : Int) + 1, (0 : Int), (0 : Int)) else ((0 : Int), (i : Int) + 1, (0 : Int)))
def degT (b : Bool) (d : Nat) : List Tab := [if 16 < d then (0, 0, []) else if b then ((d : Int), 0, []) else (0, (d : Int), []), if b then (0, 1, []) else (1, 0, [])]
/-- d arcs that end, or begin, at one vertex. -/
def degN (d : Nat) (b : Bool) : NetD := ⟨degV d, degA b d, degT b d⟩
set_option maxRecDepth 1000000 in
theorem deg_chk : ∀ d : Fin 19, ∀ b : Bool, chkN (degN d.val b) = if 16 < d.val then ([(vertB, 0)], 4) else fltOK := by decide
theorem degV_len (d : Nat) : (degV d).length = d + 1 := by simp [degV]
theorem degA_len (b : Bool) (d : Nat) : (degA b d).length = d := by simp [degA]
theorem degV_snoc (d : Nat) : degV (d + 1) = degV d ++ [((d : Int), 0, 1)] := by simp [degV, List.range_succ]
theorem degA_snoc (b : Bool) (d : Nat) : degA b (d + 1) = degA b d ++ [if b then ((d : Int) + 1, 0, 0) else (0, (d : Int) + 1, 0)] := by simp [degA, List.range_succ]
theorem deg_few (d : Nat) (b : Bool) (h : d < 19) : NetFew (degN d b) := by
  refine ⟨by show (degV d).length ≤ 80; rw [degV_len]; omega, by show (degA b d).length ≤ 300; rw [degA_len]; omega, by simp [degN, degT], ?_⟩
  intro t ht
  simp only [degN, degT, List.mem_cons, List.not_mem_nil, or_false] at ht
  rcases ht with rfl | rfl
  · split <;> (try split) <;> simp
  · split <;> simp
theorem deg_in (d : Nat) (b : Bool) (h : d < 19) : InNet (degN d b) := by
  refine ⟨?_, ?_, ?_⟩
  · intro x hx
    simp only [degN, degV, List.mem_cons, List.mem_map, List.mem_range] at hx
    rcases hx with rfl | ⟨i, hi, rfl⟩
    · simp
    · simp only []; omega
  · intro x hx
    simp only [degN, degA, List.mem_map, List.mem_range] at hx
    obtain ⟨i, hi, rfl⟩ := hx
    cases b <;> simp <;> omega
  · intro t ht
    simp only [degN, degT, List.mem_cons, List.not_mem_nil, or_false] at ht
    rcases ht with rfl | rfl
    · split
      · exact ⟨by simp, by simp, fun y hy => by cases hy⟩
      · split
        · exact ⟨by simp only []; omega, by simp, fun y hy => by cases hy⟩
        · exact ⟨by simp, by simp only []; omega, fun y hy => by cases hy⟩
    · split
      · exact ⟨by simp, by simp, fun y hy => by cases hy⟩
      · exact ⟨by simp, by simp, fun y hy => by cases hy⟩
theorem rowI_nil (w : World) : RowI w (.slice none 0 0) [] := ⟨0, World.ownsRow_nil _ _ _ _⟩

theorem owns_low {w : World} {base base' : Nat} {e : TypeId} {s : Nat} {v : Value} {n : Nat} {xs : List Value} (h : w.ownsRow base e s v n xs) (hb : base' ≤ base) : w.ownsRow base' e s v n xs :=
  ⟨h.1, h.2.imp id fun ⟨g, cap, cur, e1, hg, r⟩ => ⟨g, cap, cur, e1, by omega, r⟩⟩
/-- While the net is made: kv vertices more, ka arcs. -/
structure DegR (base : Nat) (wb : World) (b : Bool) (tq : Option Addr) (tc : Nat) (TL : List Value) (kv ka : Nat) (vq aq : Option Addr) (vc ac : Nat) (w : World) : Prop where
  v : w.ownsRow base 62 3 (.slice vq (kv + 1) vc) (degV kv).length (flatT (degV kv))
  a : w.ownsRow base 70 3 (.slice aq ka ac) (degA b ka).length (flatT (degA b ka))
  t : w.ownsRow base 60 3 (.slice tq 2 tc) 2 TL
  n : Blk w (base + 1) #[.slice vq (kv + 1) vc, .slice aq ka ac, .slice tq 2 tc] 26
  low : Below base wb w
  size : base + 2 ≤ w.heap.size
section
variable {base : Nat} {wb : World} {b : Bool} {tq : Option Addr} {tc : Nat} {TL : List Value} {kv ka : Nat} {vq aq : Option Addr} {vc ac : Nat} {w : World}
theorem DegR.alloc (h : DegR base wb b tq tc TL kv ka vq aq vc ac w) (o : Obj) : DegR base wb b tq tc TL kv ka vq aq vc ac (w.alloc o) :=
  ⟨h.v.alloc _, h.a.alloc _, h.t.alloc _, h.n.old _, h.low.trans ((below_new _).mono (by have := h.size; omega)), by have := h.size; simp; omega⟩
theorem DegR.vert (h : DegR base wb b tq tc TL kv ka vq aq vc ac w) (hk : kv ≤ 1000) :
    ∃ q c w', (Builtin.append_ #[22, 22] 22 #[.slice vq (kv + 1) vc, .slice (some ⟨w.heap.size, 0, none⟩) 1 1]).run Tryd.prog (w.alloc (.cells #[.int .i64 kv, .int .i64 0, .int .i64 1] 62)) = .ok (.slice q (kv + 1 + 1) c) w' ∧
      Blk w' (base + 1) #[.slice vq (kv + 1) vc, .slice aq ka ac, .slice tq 2 tc] 26 ∧ DegR base wb b tq tc TL (kv + 1) ka q aq c ac (w'.setCell ⟨base + 1, 0, none⟩ (.slice q (kv + 1 + 1) c)) := by
  have h1 := h.alloc (.cells #[.int .i64 kv, .int .i64 0, .int .i64 1] 62)
  have hl := degV_len kv
  obtain ⟨q, c, w', hr, ho, hg⟩ := app3 (x := ((kv : Int), 0, 1)) Tryd.underlying22 infoRVert h1.v ⟨w.heap.size, rfl, Blk.new _ _ _ _ rfl⟩ (by omega) (by have := h1.size; omega)
  have hn := h1.n.grownO hg (own_ne_blk h1.v h1.n (by decide))
  have ha := owns_grown h1.a h1.v (by decide) hg
  have ht := owns_grown h1.t h1.v (by decide) hg
  have hlow := h1.low.grown hg (by have := h1.size; omega) (fun g hg' => own_ge h1.v g (by simpa using hg'))
  have hs := hg.size
  rw [hl] at hr ho
  rw [← degV_snoc] at ho
  refine ⟨q, c, w', hr, hn, ⟨?_, owns_set ha hn (by decide) 0 _, owns_set ht hn (by decide) 0 _, hn.set 0 _, hlow.setCell (by simp only []; omega) _, by have := h1.size; simp; omega⟩⟩
  rw [degV_len]
  exact owns_set ho hn (by decide) 0 _
theorem DegR.arc (h : DegR base wb b tq tc TL kv ka vq aq vc ac w) (hk : ka ≤ 1000) {x : Tri} (hx : x = if b then ((ka : Int) + 1, 0, 0) else (0, (ka : Int) + 1, 0)) :
    ∃ q c w', (Builtin.append_ #[23, 23] 23 #[.slice aq ka ac, .slice (some ⟨w.heap.size, 0, none⟩) 1 1]).run Tryd.prog (w.alloc (.cells #[.int .i64 x.1, .int .i64 x.2.1, .int .i64 x.2.2] 70)) = .ok (.slice q (ka + 1) c) w' ∧
      Blk w' (base + 1) #[.slice vq (kv + 1) vc, .slice aq ka ac, .slice tq 2 tc] 26 ∧ DegR base wb b tq tc TL kv (ka + 1) vq q vc c (w'.setCell ⟨base + 1, 1, none⟩ (.slice q (ka + 1) c)) := by
  have h1 := h.alloc (.cells #[.int .i64 x.1, .int .i64 x.2.1, .int .i64 x.2.2] 70)
  have hl := degA_len b ka
  obtain ⟨q, c, w', hr, ho, hg⟩ := app3 (x := x) Tryd.underlying23 infoRArc h1.a ⟨w.heap.size, rfl, Blk.new _ _ _ _ rfl⟩ (by omega) (by have := h1.size; omega)
  have hn := h1.n.grownO hg (own_ne_blk h1.a h1.n (by decide))
  have hv := owns_grown h1.v h1.a (by decide) hg
  have ht := owns_grown h1.t h1.a (by decide) hg
  have hlow := h1.low.grown hg (by have := h1.size; omega) (fun g hg' => own_ge h1.a g (by simpa using hg'))
  have hs := hg.size
  rw [hl] at hr ho
  rw [hx, ← degA_snoc] at ho
  refine ⟨q, c, w', hr, hn, ⟨owns_set hv hn (by decide) 1 _, ?_, owns_set ht hn (by decide) 1 _, hn.set 1 _, hlow.setCell (by simp only []; omega) _, by have := h1.size; simp; omega⟩⟩
  rw [degA_len]
  exact owns_set ho hn (by decide) 1 _
theorem DegR.net {d : Nat} (h : DegR base wb b tq tc TL d d vq aq vc ac w) (hd : d ≤ 1000) {T1 T2 : Tab} (hT : degT b d = [T1, T2]) (hTL : TL = flatB [T1, T2] [.slice none 0 0, .slice none 0 0]) (h1 : T1.2.2 = []) (h2 : T2.2.2 = []) : NetV w (.agg #[.slice vq (d + 1) vc, .slice aq d ac, .slice tq 2 tc]) (degN d b) := by
  have hl := degV_len d
  refine ⟨_, _, _, rfl, tris_of_owns h.v (by show (degV d).length ≤ _; omega), tris_of_owns h.a (by show (degA b d).length ≤ _; rw [degA_len]; omega), ?_⟩
  show Tabs w _ (degT b d)
  rw [hT]
  have ht := h.t
  rw [hTL] at ht
  refine tabs_of_owns (us := [.slice none 0 0, .slice none 0 0]) ht ⟨rfl, fun i t u e1 e2 => ?_⟩ (by simp) (fun t ht => ?_)
  · match i, e1, e2 with
    | 0, e1, e2 => simp at e1 e2; subst e1; subst e2; rw [h1]; exact rowI_nil w
    | 1, e1, e2 => simp at e1 e2; subst e1; subst e2; rw [h2]; exact rowI_nil w
  · simp at ht
    rcases ht with rfl | rfl
    · rw [h1]; simp
    · rw [h2]; simp
end

set_option maxHeartbeats 8000000 in
set_option maxRecDepth 100000 in
theorem deg_in_ok (k_ : Int) (d : Nat) (w : World) (hg : ErrT w) (hk0 : 0 ≤ k_) (hk1 : k_ ≤ 255) (hmod : k_.tmod 19 = d) (hd : ¬ 16 < d) (hd19 : d < 19) :
    Calls Tryd.prog 9 #[.int .u8 k_, .bool true] w fun e w' => e = .returned (.bool true) ∧ Below w.heap.size w w' := by
  have HG := Lib.hid hg
  have hdd : decide ((16 : Int) < (d : Int)) = false := decide_eq_false (by omega)
  have HTT : Hid (degT true d = [((d : Int), 0, []), (0, 1, [])]) := Lib.hid (by unfold degT; rw [if_neg hd]; simp)
  have HCH : Hid (chkN (degN d true) = fltOK) := Lib.hid (by have := deg_chk ⟨d, hd19⟩ true; simp only [] at this; rw [this, if_neg hd])
  clear hg hd
  go_enter Tryd.func9, Tryd.ntmps9
  go_wp2_with fail
  refine (known3_any _ HG.out).mono ?_
  rintro e w1 ⟨rfl, hb⟩
  have B1 := Lib.hid hb
  have HG1 := Lib.hid (HG.out.keep hb)
  clear hb HG
  go_upto_region 14 with (fail)
  obtain ⟨W, hW⟩ := named (((((w1.alloc (.cells #[.int .i64 0, .int .i64 0, .int .i64 0] 62)).alloc (.cells #[.slice (some ⟨w1.heap.size, 0, none⟩) 1 1, .slice none 0 0, .slice (some ⟨w1.heap.size + 1 + 1 + 1, 0, none⟩) 1 1] 26)).alloc (.cells #[.int .i64 (d : Int), .int .i64 0, .slice none 0 0] 60)).alloc (.cells #[.int .i64 (d : Int), .int .i64 0, .slice none 0 0] 60)).alloc (.cells #[.int .i64 0, .int .i64 1, .slice none 0 0] 60))
  rw [← hW]
  have zW : W.heap.size = w1.heap.size + 5 := by rw [hW]; simp
  have KN : Hid (Blk W (w1.heap.size + 1) #[.slice (some ⟨w1.heap.size, 0, none⟩) 1 1, .slice none 0 0, .slice (some ⟨w1.heap.size + 1 + 1 + 1, 0, none⟩) 1 1] 26) := by rw [hW]; exact Lib.hid (((((Blk.new _ _ _ _ (by simp)).old _).old _).old _))
  have KT0 : Hid (Blk W (w1.heap.size + 1 + 1 + 1) #[.int .i64 (d : Int), .int .i64 0, .slice none 0 0] 60) := by rw [hW]; exact Lib.hid ((Blk.new _ _ _ _ (by simp)).old _)
  have KO : Hid (Blk W (w1.heap.size + 1 + 1 + 1 + 1) #[.int .i64 0, .int .i64 1, .slice none 0 0] 60) := by rw [hW]; exact Lib.hid (Blk.new _ _ _ _ (by simp))
  have OV : Hid (W.ownsRow w1.heap.size 62 3 (.slice (some ⟨w1.heap.size, 0, none⟩) 1 1) 1 [.int .i64 0, .int .i64 0, .int .i64 0]) := by
    rw [hW]
    have h0 := World.ownsRow_lit (base := w1.heap.size) (e := 62) (size := 3) w1 #[.int .i64 0, .int .i64 0, .int .i64 0] 1 (Nat.le_refl _) (by simp [maxLen]) (by simp)
    exact Lib.hid ((((h0.alloc _).alloc _).alloc _).alloc _)
  have BW : Hid (Below w1.heap.size w1 W) := by
    rw [hW]
    iterate 5 (refine Lib.hid (Below.alloc ?_ (by simp <;> omega) _) <;> skip)
    exact Below.refl _ _
  clear hW
  obtain ⟨i0, hi, hz0, hz1, hz2⟩ := info_parts infoRTab
  -- the second table
  have hbl : Below W.heap.size W (W.alloc (.cells #[.int .i64 0, .int .i64 1, .slice none 0 0] 60)) := below_new _
  obtain ⟨v2, w2, hr2, ho2, hg2⟩ := run_append_arg_grows (P := Tryd.prog) (w := W.alloc (.cells #[.int .i64 0, .int .i64 1, .slice none 0 0] 60)) 24 24 60 i0 (.agg #[.int .i64 0, .int .i64 0, .slice none 0 0]) 3 40 Tryd.underlying24 hi hz0 hz1 hz2 rfl (by decide)
    ⟨w1.heap.size + 1 + 1 + 1, 0, none⟩ 1 1 [.int .i64 (d : Int), .int .i64 0, .slice none 0 0] (by simp) (fun j u hu => by
      have kt := KT0.out.keep hbl
      obtain ⟨k0, k1, k2, -, -, -⟩ := kt.o3
      match j, hu with
      | 0, hu => simp at hu; subst hu; exact k0
      | 1, hu => simp at hu; subst hu; exact k1
      | 2, hu => simp at hu; subst hu; exact k2)
    ⟨W.heap.size, 0, none⟩ 1 1 [.int .i64 0, .int .i64 1, .slice none 0 0] (by simp) (fun j u hu => by
      have kt : Blk (W.alloc (.cells #[.int .i64 0, .int .i64 1, .slice none 0 0] 60)) W.heap.size #[.int .i64 0, .int .i64 1, .slice none 0 0] 60 := Blk.new _ _ _ _ rfl
      obtain ⟨k0, k1, k2, -, -, -⟩ := kt.o3
      match j, hu with
      | 0, hu => simp at hu; subst hu; exact k0
      | 1, hu => simp at hu; subst hu; exact k1
      | 2, hu => simp at hu; subst hu; exact k2) (by omega) (by simp [maxLen]) (by omega)
  simp only [Nat.reduceAdd, List.cons_append, List.nil_append] at ho2
  obtain ⟨tq, tc, rfl⟩ := own_shape ho2
  have hb2 : Below W.heap.size W w2 := hbl.grown hg2 hbl.size (fun k hk => by cases hk)
  have KN2 := Lib.hid (KN.out.keep hb2)
  have OV2 := Lib.hid (owns_below OV.out hb2)
  have BW2 := Lib.hid (BW.out.trans (hb2.mono (by omega)))
  have HR2 := Lib.hid hr2
  have HO2 := Lib.hid ho2
  have zw2 := hb2.size
  obtain ⟨n0, n1, n2, -, -, -⟩ := KN.out.o3
  obtain ⟨p0, p1, p2, -, -, -⟩ := KO.out.o3
  obtain ⟨d0, d1, d2, f0, f1, f2⟩ := KN2.out.o3
  have ZW := Lib.hid zW
  have ZW2 := Lib.hid zw2
  clear zW zw2
  clear hr2 ho2 hg2 hb2 hbl
  go_wp2_with (at_builtin; refine wpList_append_run rfl _ _ 24 rfl _ _ _ rfl rfl HR2.out ?_)
  obtain ⟨WL, hWL⟩ := named (w2.setCell ⟨w1.heap.size + 1, 2, none⟩ (.slice tq 2 tc))
  rw [← hWL]
  have HDL : Hid (DegR w1.heap.size w1 true tq tc [.int .i64 (d : Int), .int .i64 0, .slice none 0 0, .int .i64 0, .int .i64 1, .slice none 0 0] 0 0 (some ⟨w1.heap.size, 0, none⟩) none 1 0 WL) := by
    rw [hWL]
    exact Lib.hid ⟨owns_set OV2.out KN2.out (by decide) 2 _, World.ownsRow_nil _ _ _ _, owns_set (owns_low HO2.out (by have := ZW.out; simp; omega)) KN2.out (by decide) 2 _, by simpa using KN2.out.set 2 (.slice tq 2 tc), BW2.out.setCell (by simp only []; omega) _, by have := ZW.out; have := ZW2.out; simp; omega⟩
  clear hWL KN KT0 KO OV BW KN2 OV2 BW2 HR2 HO2 n0 n1 n2 p0 p1 p2 d0 d1 d2 f0 f1 f2 hi hz0 hz1 hz2
  go_loopw [9, 10] (fun i _ wr => ∃ (k : Nat) (vq aq : Option Addr) (vc ac : Nat), k ≤ d ∧ i = .int .i64 k ∧ Hid (DegR w1.heap.size w1 true tq tc [.int .i64 (d : Int), .int .i64 0, .slice none 0 0, .int .i64 0, .int .i64 1, .slice none 0 0] k k vq aq vc ac wr)) (fun i _ _ => d - (intOf i).toNat)
  case atStart => exact ⟨0, _, _, _, _, Nat.zero_le _, rfl, HDL⟩
  case round =>
    obtain ⟨k, vq, aq, vc, ac, hk, rfl, HD⟩ := hrel
    clear HDL
    obtain ⟨d0, d1, d2, -, -, -⟩ := HD.out.n.o3
    by_cases hlt : k < d
    · have hli : (k : Int) < (d : Int) := by omega
      obtain ⟨q, c, w3, hr, hn, hD2⟩ := HD.out.vert (by omega)
      have HRR := Lib.hid hr
      have HD2 := Lib.hid hD2
      obtain ⟨m0, m1, m2, f0, f1, f2⟩ := hn.o3
      have hnl := hn.lt
      clear hr hD2 hn
      go_upto_region 22 with (at_builtin; refine wpList_append_run rfl _ _ 22 rfl _ _ _ rfl rfl HRR.out ?_)
      obtain ⟨WM, hWM⟩ := named ((w3.setCell ⟨w1.heap.size + 1, 0, none⟩ (.slice q (k + 1 + 1) c)).alloc (.cells #[.int .i64 ((k : Int) + 1), .int .i64 0, .int .i64 0] 70))
      rw [← hWM]
      have HM : Hid (DegR w1.heap.size w1 true tq tc [.int .i64 (d : Int), .int .i64 0, .slice none 0 0, .int .i64 0, .int .i64 1, .slice none 0 0] (k + 1) k q aq c ac WM) := by rw [hWM]; exact Lib.hid (HD2.out.alloc _)
      have KA : Hid (Blk WM w3.heap.size #[.int .i64 ((k : Int) + 1), .int .i64 0, .int .i64 0] 70) := by rw [hWM]; exact Lib.hid (Blk.new _ _ _ _ (by simp))
      clear hWM d0 d1 d2 m0 m1 m2 f0 f1 f2 HD2 HRR hnl
      obtain ⟨q', c', w4, hr, hn, hD3⟩ := HM.out.arc (by omega) (x := ((k : Int) + 1, 0, 0)) (by simp)
      have HRR := Lib.hid hr
      have HD3 := Lib.hid hD3
      obtain ⟨n0, n1, n2, -, -, -⟩ := HM.out.n.o3
      obtain ⟨a0, a1, a2, -, -, -⟩ := KA.out.o3
      obtain ⟨m0, m1, m2, f0, f1, f2⟩ := hn.o3
      clear hr hD3 hn
      go_wp2_with (at_builtin; refine wpList_append_run rfl _ _ 23 rfl _ _ _ rfl rfl HRR.out ?_)
      go_roundw
      case rel => exact ⟨k + 1, q, q', c, c', by omega, by go_num, HD3⟩
      case measure => simp [intOf]; omega
    · have hli : ¬ (k : Int) < (d : Int) := by omega
      obtain rfl : k = d := by omega
      have NV := Lib.hid (HD.out.net (by omega) HTT.out rfl rfl rfl)
      have hzr := HD.out.size
      obtain ⟨WE, hWE⟩ := named (wr.alloc (.cells #[.slice none 0 0, .int .i64 0] 41))
      have BE' : Below wr.heap.size wr WE := by rw [hWE]; exact below_new _
      have WG : Hid (WrongV WE (.agg #[.slice none 0 0, .int .i64 0]) [] 0) := Lib.hid ⟨_, rfl, Or.inl ⟨rfl, rfl⟩⟩
      have KW : Hid (Blk WE wr.heap.size #[.slice none 0 0, .int .i64 0] 41) := by rw [hWE]; exact Lib.hid (Blk.new _ _ _ _ rfl)
      have HWE := Lib.hid hWE
      go_wp2_with fail
      rw [← HWE.out]
      clear hWE
      have KN := Lib.hid (HD.out.n.keep BE')
      have VN := Lib.hid (NV.out.below BE')
      have BE := Lib.hid (HD.out.low.trans (BE'.mono (by omega)))
      have HG2 := Lib.hid (HG1.out.keep BE.out)
      clear BE' d0 d1 d2
      have hGS : Grows (fun w' => Below WE.heap.size WE w') := Grows.below WE
      refine' wp_growL _ (fun w' => Below WE.heap.size WE w') [[], [0], [1], [], [2, 3], [4]] (Fact.lit _ :: Fact.prop _ _ :: Fact.prop _ _ :: Fact.lit _ :: Fact.lit _ :: Fact.lit _ :: []) (by kernel_rfl) rfl (by kernel_rfl) (Below.refl _ _).drew ?seqfininok
      case' seqfininok => skip
      (first | (refine' grow_skip rfl ?wt1 ?put1 ?next1; (case wt1 => rfl)) | (refine' grow_lit rfl ?wt1 ?run1 ?put1 ?next1; (case wt1 => rfl); (case run1 => (intro w' hS H; clear H; (obtain ⟨a0, a1, a2, -, -, -⟩ := (KN.out.keep hS).o3); (obtain ⟨g0, g1, -, -⟩ := (KW.out.keep hS).o2); clear hS; go_simp; first | done | exact rfl)))); (case put1 => (simp only [Act.put, List.setIfInBounds_toArray, List.set_cons_zero, List.set_cons_succ]; first | done | exact rfl)); (case' next1 => skip)
      (refine' grow_callP (p := fun v w => NetV w v (degN k true)) (hp := fun v w w' h hb => h.below hb) rfl Tryd.func14 (by kernel_rfl) rfl hGS rfl ?wt13 ?run13 ?put13 ?next13; (case wt13 => rfl); (case run13 => (intro w' hS H; exact vtoF (VN.out.below hS) (deg_few k true hd19))); (case put13 => (intro v; simp only [Act.put, List.setIfInBounds_toArray, List.set_cons_zero, List.set_cons_succ]; first | done | exact rfl)); (case' next13 => intro v1))
      (refine' grow_callP (p := fun v w => FaultV w v ([] : List (ByteArray × Int)) 0) (hp := fun v w w' h hb => h.below hb) rfl Tryd.func13 (by kernel_rfl) rfl hGS rfl ?wt14 ?run14 ?put14 ?next14; (case wt14 => rfl); (case run14 => (intro w' hS H; (have h1 : NetV w' v1 (degN k true) := H 1 (by decide)); exact vcheckE h1 (deg_few k true hd19).small (deg_in k true hd19) HCH.out)); (case put14 => (intro v; simp only [Act.put, List.setIfInBounds_toArray, List.set_cons_zero, List.set_cons_succ]; first | done | exact rfl)); (case' next14 => intro v2))
      (first | (refine' grow_skip rfl ?wt2 ?put2 ?next2; (case wt2 => rfl)) | (refine' grow_lit rfl ?wt2 ?run2 ?put2 ?next2; (case wt2 => rfl); (case run2 => (intro w' hS H; clear H; (obtain ⟨a0, a1, a2, -, -, -⟩ := (KN.out.keep hS).o3); (obtain ⟨g0, g1, -, -⟩ := (KW.out.keep hS).o2); clear hS; go_simp; first | done | exact rfl)))); (case put2 => (simp only [Act.put, List.setIfInBounds_toArray, List.set_cons_zero, List.set_cons_succ]; first | done | exact rfl)); (case' next2 => skip)
      (refine' grow_call (u := .bool true) rfl Tryd.func12 (by kernel_rfl) rfl hGS rfl ?wt15 ?run15 ?put15 ?next15; (case wt15 => rfl); (case run15 => (intro w' hS H; exact tells_post _ _ ([] : List (ByteArray × Int)) 0 w' (HG2.out.keep hS) (H 2 (by decide)) (WG.out.below hS) (Or.inl ⟨rfl, rfl⟩))); (case put15 => (simp only [Act.put, List.setIfInBounds_toArray, List.set_cons_zero, List.set_cons_succ]; first | done | exact rfl)); (case' next15 => skip))
      (first | (refine' grow_skip rfl ?wt3 ?put3 ?next3; (case wt3 => rfl)) | (refine' grow_lit rfl ?wt3 ?run3 ?put3 ?next3; (case wt3 => rfl); (case run3 => (intro w' hS H; clear H; (obtain ⟨a0, a1, a2, -, -, -⟩ := (KN.out.keep hS).o3); (obtain ⟨g0, g1, -, -⟩ := (KW.out.keep hS).o2); clear hS; go_simp; first | done | exact rfl)))); (case put3 => (simp only [Act.put, List.setIfInBounds_toArray, List.set_cons_zero, List.set_cons_succ]; first | done | exact rfl)); (case' next3 => skip)
      intro w9 hb _
      have HF := Lib.hid (B1.out.trans ((BE.out.trans (hb.mono (by have := BE.out.size; omega))).mono B1.out.size))
      clear hb hGS
      go_wp2_with fail
      go_ret
      exact ⟨rfl, HF.out⟩

set_option maxHeartbeats 8000000 in
set_option maxRecDepth 100000 in
theorem deg_in_big (k_ : Int) (d : Nat) (w : World) (hg : ErrT w) (hk0 : 0 ≤ k_) (hk1 : k_ ≤ 255) (hmod : k_.tmod 19 = d) (hd : 16 < d) (hd19 : d < 19) :
    Calls Tryd.prog 9 #[.int .u8 k_, .bool true] w fun e w' => e = .returned (.bool true) ∧ Below w.heap.size w w' := by
  have HG := Lib.hid hg
  have hdd : decide ((16 : Int) < (d : Int)) = true := decide_eq_true (by omega)
  have HTT : Hid (degT true d = [(0, 0, []), (0, 1, [])]) := Lib.hid (by unfold degT; rw [if_pos hd]; simp)
  have HCH : Hid (chkN (degN d true) = ([(vertB, 0)], 4)) := Lib.hid (by have := deg_chk ⟨d, hd19⟩ true; simp only [] at this; rw [this, if_pos hd])
  clear hg hd
  go_enter Tryd.func9, Tryd.ntmps9
  go_wp2_with fail
  refine (known3_any _ HG.out).mono ?_
  rintro e w1 ⟨rfl, hb⟩
  have B1 := Lib.hid hb
  have HG1 := Lib.hid (HG.out.keep hb)
  clear hb HG
  go_upto_region 14 with (fail)
  obtain ⟨W, hW⟩ := named (((((w1.alloc (.cells #[.int .i64 0, .int .i64 0, .int .i64 0] 62)).alloc (.cells #[.slice (some ⟨w1.heap.size, 0, none⟩) 1 1, .slice none 0 0, .slice (some ⟨w1.heap.size + 1 + 1 + 1, 0, none⟩) 1 1] 26)).alloc (.cells #[.int .i64 0, .int .i64 0, .slice none 0 0] 60)).alloc (.cells #[.int .i64 0, .int .i64 0, .slice none 0 0] 60)).alloc (.cells #[.int .i64 0, .int .i64 1, .slice none 0 0] 60))
  rw [← hW]
  have zW : W.heap.size = w1.heap.size + 5 := by rw [hW]; simp
  have KN : Hid (Blk W (w1.heap.size + 1) #[.slice (some ⟨w1.heap.size, 0, none⟩) 1 1, .slice none 0 0, .slice (some ⟨w1.heap.size + 1 + 1 + 1, 0, none⟩) 1 1] 26) := by rw [hW]; exact Lib.hid (((((Blk.new _ _ _ _ (by simp)).old _).old _).old _))
  have KT0 : Hid (Blk W (w1.heap.size + 1 + 1 + 1) #[.int .i64 0, .int .i64 0, .slice none 0 0] 60) := by rw [hW]; exact Lib.hid ((Blk.new _ _ _ _ (by simp)).old _)
  have KO : Hid (Blk W (w1.heap.size + 1 + 1 + 1 + 1) #[.int .i64 0, .int .i64 1, .slice none 0 0] 60) := by rw [hW]; exact Lib.hid (Blk.new _ _ _ _ (by simp))
  have OV : Hid (W.ownsRow w1.heap.size 62 3 (.slice (some ⟨w1.heap.size, 0, none⟩) 1 1) 1 [.int .i64 0, .int .i64 0, .int .i64 0]) := by
    rw [hW]
    have h0 := World.ownsRow_lit (base := w1.heap.size) (e := 62) (size := 3) w1 #[.int .i64 0, .int .i64 0, .int .i64 0] 1 (Nat.le_refl _) (by simp [maxLen]) (by simp)
    exact Lib.hid ((((h0.alloc _).alloc _).alloc _).alloc _)
  have BW : Hid (Below w1.heap.size w1 W) := by
    rw [hW]
    iterate 5 (refine Lib.hid (Below.alloc ?_ (by simp <;> omega) _) <;> skip)
    exact Below.refl _ _
  clear hW
  obtain ⟨i0, hi, hz0, hz1, hz2⟩ := info_parts infoRTab
  -- the second table
  have hbl : Below W.heap.size W (W.alloc (.cells #[.int .i64 0, .int .i64 1, .slice none 0 0] 60)) := below_new _
  obtain ⟨v2, w2, hr2, ho2, hg2⟩ := run_append_arg_grows (P := Tryd.prog) (w := W.alloc (.cells #[.int .i64 0, .int .i64 1, .slice none 0 0] 60)) 24 24 60 i0 (.agg #[.int .i64 0, .int .i64 0, .slice none 0 0]) 3 40 Tryd.underlying24 hi hz0 hz1 hz2 rfl (by decide)
    ⟨w1.heap.size + 1 + 1 + 1, 0, none⟩ 1 1 [.int .i64 0, .int .i64 0, .slice none 0 0] (by simp) (fun j u hu => by
      have kt := KT0.out.keep hbl
      obtain ⟨k0, k1, k2, -, -, -⟩ := kt.o3
      match j, hu with
      | 0, hu => simp at hu; subst hu; exact k0
      | 1, hu => simp at hu; subst hu; exact k1
      | 2, hu => simp at hu; subst hu; exact k2)
    ⟨W.heap.size, 0, none⟩ 1 1 [.int .i64 0, .int .i64 1, .slice none 0 0] (by simp) (fun j u hu => by
      have kt : Blk (W.alloc (.cells #[.int .i64 0, .int .i64 1, .slice none 0 0] 60)) W.heap.size #[.int .i64 0, .int .i64 1, .slice none 0 0] 60 := Blk.new _ _ _ _ rfl
      obtain ⟨k0, k1, k2, -, -, -⟩ := kt.o3
      match j, hu with
      | 0, hu => simp at hu; subst hu; exact k0
      | 1, hu => simp at hu; subst hu; exact k1
      | 2, hu => simp at hu; subst hu; exact k2) (by omega) (by simp [maxLen]) (by omega)
  simp only [Nat.reduceAdd, List.cons_append, List.nil_append] at ho2
  obtain ⟨tq, tc, rfl⟩ := own_shape ho2
  have hb2 : Below W.heap.size W w2 := hbl.grown hg2 hbl.size (fun k hk => by cases hk)
  have KN2 := Lib.hid (KN.out.keep hb2)
  have OV2 := Lib.hid (owns_below OV.out hb2)
  have BW2 := Lib.hid (BW.out.trans (hb2.mono (by omega)))
  have HR2 := Lib.hid hr2
  have HO2 := Lib.hid ho2
  have zw2 := hb2.size
  obtain ⟨n0, n1, n2, -, -, -⟩ := KN.out.o3
  obtain ⟨p0, p1, p2, -, -, -⟩ := KO.out.o3
  obtain ⟨d0, d1, d2, f0, f1, f2⟩ := KN2.out.o3
  have ZW := Lib.hid zW
  have ZW2 := Lib.hid zw2
  clear zW zw2
  clear hr2 ho2 hg2 hb2 hbl
  go_wp2_with (at_builtin; refine wpList_append_run rfl _ _ 24 rfl _ _ _ rfl rfl HR2.out ?_)
  obtain ⟨WL, hWL⟩ := named (w2.setCell ⟨w1.heap.size + 1, 2, none⟩ (.slice tq 2 tc))
  rw [← hWL]
  have HDL : Hid (DegR w1.heap.size w1 true tq tc [.int .i64 0, .int .i64 0, .slice none 0 0, .int .i64 0, .int .i64 1, .slice none 0 0] 0 0 (some ⟨w1.heap.size, 0, none⟩) none 1 0 WL) := by
    rw [hWL]
    exact Lib.hid ⟨owns_set OV2.out KN2.out (by decide) 2 _, World.ownsRow_nil _ _ _ _, owns_set (owns_low HO2.out (by have := ZW.out; simp; omega)) KN2.out (by decide) 2 _, by simpa using KN2.out.set 2 (.slice tq 2 tc), BW2.out.setCell (by simp only []; omega) _, by have := ZW.out; have := ZW2.out; simp; omega⟩
  clear hWL KN KT0 KO OV BW KN2 OV2 BW2 HR2 HO2 n0 n1 n2 p0 p1 p2 d0 d1 d2 f0 f1 f2 hi hz0 hz1 hz2
  go_loopw [9, 10] (fun i _ wr => ∃ (k : Nat) (vq aq : Option Addr) (vc ac : Nat), k ≤ d ∧ i = .int .i64 k ∧ Hid (DegR w1.heap.size w1 true tq tc [.int .i64 0, .int .i64 0, .slice none 0 0, .int .i64 0, .int .i64 1, .slice none 0 0] k k vq aq vc ac wr)) (fun i _ _ => d - (intOf i).toNat)
  case atStart => exact ⟨0, _, _, _, _, Nat.zero_le _, rfl, HDL⟩
  case round =>
    obtain ⟨k, vq, aq, vc, ac, hk, rfl, HD⟩ := hrel
    clear HDL
    obtain ⟨d0, d1, d2, -, -, -⟩ := HD.out.n.o3
    by_cases hlt : k < d
    · have hli : (k : Int) < (d : Int) := by omega
      obtain ⟨q, c, w3, hr, hn, hD2⟩ := HD.out.vert (by omega)
      have HRR := Lib.hid hr
      have HD2 := Lib.hid hD2
      obtain ⟨m0, m1, m2, f0, f1, f2⟩ := hn.o3
      have hnl := hn.lt
      clear hr hD2 hn
      go_upto_region 22 with (at_builtin; refine wpList_append_run rfl _ _ 22 rfl _ _ _ rfl rfl HRR.out ?_)
      obtain ⟨WM, hWM⟩ := named ((w3.setCell ⟨w1.heap.size + 1, 0, none⟩ (.slice q (k + 1 + 1) c)).alloc (.cells #[.int .i64 ((k : Int) + 1), .int .i64 0, .int .i64 0] 70))
      rw [← hWM]
      have HM : Hid (DegR w1.heap.size w1 true tq tc [.int .i64 0, .int .i64 0, .slice none 0 0, .int .i64 0, .int .i64 1, .slice none 0 0] (k + 1) k q aq c ac WM) := by rw [hWM]; exact Lib.hid (HD2.out.alloc _)
      have KA : Hid (Blk WM w3.heap.size #[.int .i64 ((k : Int) + 1), .int .i64 0, .int .i64 0] 70) := by rw [hWM]; exact Lib.hid (Blk.new _ _ _ _ (by simp))
      clear hWM d0 d1 d2 m0 m1 m2 f0 f1 f2 HD2 HRR hnl
      obtain ⟨q', c', w4, hr, hn, hD3⟩ := HM.out.arc (by omega) (x := ((k : Int) + 1, 0, 0)) (by simp)
      have HRR := Lib.hid hr
      have HD3 := Lib.hid hD3
      obtain ⟨n0, n1, n2, -, -, -⟩ := HM.out.n.o3
      obtain ⟨a0, a1, a2, -, -, -⟩ := KA.out.o3
      obtain ⟨m0, m1, m2, f0, f1, f2⟩ := hn.o3
      clear hr hD3 hn
      go_wp2_with (at_builtin; refine wpList_append_run rfl _ _ 23 rfl _ _ _ rfl rfl HRR.out ?_)
      go_roundw
      case rel => exact ⟨k + 1, q, q', c, c', by omega, by go_num, HD3⟩
      case measure => simp [intOf]; omega
    · have hli : ¬ (k : Int) < (d : Int) := by omega
      obtain rfl : k = d := by omega
      have NV := Lib.hid (HD.out.net (by omega) HTT.out rfl rfl rfl)
      have hzr := HD.out.size
      obtain ⟨WE0, hWE0⟩ := named (wr.alloc (.cells #[.slice none 0 0, .int .i64 0] 41))
      have hb0 : Below wr.heap.size wr WE0 := by rw [hWE0]; exact below_new _
      have KW0 : Hid (Blk WE0 wr.heap.size #[.slice none 0 0, .int .i64 0] 41) := by rw [hWE0]; exact Lib.hid (Blk.new _ _ _ _ rfl)
      have HB0 := Lib.hid hb0
      have HWE0 := Lib.hid hWE0
      clear hb0 hWE0
      go_wp2_with fail
      rw [← HWE0.out]
      refine (at_post vertB 0 4 _).mono ?_
      rintro e w3 ⟨wv, rfl, hW, hb⟩
      obtain ⟨fq, fn, fc, rfl⟩ := hW.shape
      have kw := KW0.out.keep hb
      have hlw := kw.lt
      have hlz := KW0.out.lt
      obtain ⟨g0, g1, f0, f1⟩ := kw.o2
      obtain ⟨WE, hWE⟩ := named ((w3.setCell ⟨wr.heap.size, 0, none⟩ (.slice fq fn fc)).setCell ⟨wr.heap.size, 1, none⟩ (.int .i64 4))
      have BE' : Below wr.heap.size wr WE := by
        rw [hWE]
        iterate 2 (refine Below.setCell ?_ (by simp only []; omega) _)
        exact HB0.out.trans (hb.mono HB0.out.size)
      have WG : Hid (WrongV WE (.agg #[.slice fq fn fc, .int .i64 4]) [(vertB, 0)] 4) := by rw [hWE]; exact Lib.hid (wrong_set kw (fun s => by simp) (fun s => by simp) hW (.slice fq fn fc) (.int .i64 4))
      have KW : Hid (Blk WE wr.heap.size #[.slice fq fn fc, .int .i64 4] 41) := by rw [hWE]; exact Lib.hid (by simpa using (kw.set 0 (.slice fq fn fc)).set 1 (.int .i64 4))
      have HWE := Lib.hid hWE
      go_wp2_with fail
      rw [← HWE.out]
      clear g0 g1 f0 f1 kw hW hb hWE HB0 KW0 HWE0
      have KN := Lib.hid (HD.out.n.keep BE')
      have VN := Lib.hid (NV.out.below BE')
      have BE := Lib.hid (HD.out.low.trans (BE'.mono (by omega)))
      have HG2 := Lib.hid (HG1.out.keep BE.out)
      clear BE' d0 d1 d2
      have hGS : Grows (fun w' => Below WE.heap.size WE w') := Grows.below WE
      refine' wp_growL _ (fun w' => Below WE.heap.size WE w') [[], [0], [1], [], [2, 3], [4]] (Fact.lit _ :: Fact.prop _ _ :: Fact.prop _ _ :: Fact.lit _ :: Fact.lit _ :: Fact.lit _ :: []) (by kernel_rfl) rfl (by kernel_rfl) (Below.refl _ _).drew ?seqfininbig
      case' seqfininbig => skip
      (first | (refine' grow_skip rfl ?wt4 ?put4 ?next4; (case wt4 => rfl)) | (refine' grow_lit rfl ?wt4 ?run4 ?put4 ?next4; (case wt4 => rfl); (case run4 => (intro w' hS H; clear H; (obtain ⟨a0, a1, a2, -, -, -⟩ := (KN.out.keep hS).o3); (obtain ⟨g0, g1, -, -⟩ := (KW.out.keep hS).o2); clear hS; go_simp; first | done | exact rfl)))); (case put4 => (simp only [Act.put, List.setIfInBounds_toArray, List.set_cons_zero, List.set_cons_succ]; first | done | exact rfl)); (case' next4 => skip)
      (refine' grow_callP (p := fun v w => NetV w v (degN k true)) (hp := fun v w w' h hb => h.below hb) rfl Tryd.func14 (by kernel_rfl) rfl hGS rfl ?wt16 ?run16 ?put16 ?next16; (case wt16 => rfl); (case run16 => (intro w' hS H; exact vtoF (VN.out.below hS) (deg_few k true hd19))); (case put16 => (intro v; simp only [Act.put, List.setIfInBounds_toArray, List.set_cons_zero, List.set_cons_succ]; first | done | exact rfl)); (case' next16 => intro v1))
      (refine' grow_callP (p := fun v w => FaultV w v ([(vertB, 0)] : List (ByteArray × Int)) 4) (hp := fun v w w' h hb => h.below hb) rfl Tryd.func13 (by kernel_rfl) rfl hGS rfl ?wt17 ?run17 ?put17 ?next17; (case wt17 => rfl); (case run17 => (intro w' hS H; (have h1 : NetV w' v1 (degN k true) := H 1 (by decide)); exact vcheckE h1 (deg_few k true hd19).small (deg_in k true hd19) HCH.out)); (case put17 => (intro v; simp only [Act.put, List.setIfInBounds_toArray, List.set_cons_zero, List.set_cons_succ]; first | done | exact rfl)); (case' next17 => intro v2))
      (first | (refine' grow_skip rfl ?wt5 ?put5 ?next5; (case wt5 => rfl)) | (refine' grow_lit rfl ?wt5 ?run5 ?put5 ?next5; (case wt5 => rfl); (case run5 => (intro w' hS H; clear H; (obtain ⟨a0, a1, a2, -, -, -⟩ := (KN.out.keep hS).o3); (obtain ⟨g0, g1, -, -⟩ := (KW.out.keep hS).o2); clear hS; go_simp; first | done | exact rfl)))); (case put5 => (simp only [Act.put, List.setIfInBounds_toArray, List.set_cons_zero, List.set_cons_succ]; first | done | exact rfl)); (case' next5 => skip)
      (refine' grow_call (u := .bool true) rfl Tryd.func12 (by kernel_rfl) rfl hGS rfl ?wt18 ?run18 ?put18 ?next18; (case wt18 => rfl); (case run18 => (intro w' hS H; exact tells_post _ _ ([(vertB, 0)] : List (ByteArray × Int)) 4 w' (HG2.out.keep hS) (H 2 (by decide)) (WG.out.below hS) (Or.inr (by simp)))); (case put18 => (simp only [Act.put, List.setIfInBounds_toArray, List.set_cons_zero, List.set_cons_succ]; first | done | exact rfl)); (case' next18 => skip))
      (first | (refine' grow_skip rfl ?wt6 ?put6 ?next6; (case wt6 => rfl)) | (refine' grow_lit rfl ?wt6 ?run6 ?put6 ?next6; (case wt6 => rfl); (case run6 => (intro w' hS H; clear H; (obtain ⟨a0, a1, a2, -, -, -⟩ := (KN.out.keep hS).o3); (obtain ⟨g0, g1, -, -⟩ := (KW.out.keep hS).o2); clear hS; go_simp; first | done | exact rfl)))); (case put6 => (simp only [Act.put, List.setIfInBounds_toArray, List.set_cons_zero, List.set_cons_succ]; first | done | exact rfl)); (case' next6 => skip)
      intro w9 hb _
      have HF := Lib.hid (B1.out.trans ((BE.out.trans (hb.mono (by have := BE.out.size; omega))).mono B1.out.size))
      clear hb hGS
      go_wp2_with fail
      go_ret
      exact ⟨rfl, HF.out⟩

set_option maxHeartbeats 8000000 in
set_option maxRecDepth 100000 in
theorem deg_out_ok (k_ : Int) (d : Nat) (w : World) (hg : ErrT w) (hk0 : 0 ≤ k_) (hk1 : k_ ≤ 255) (hmod : k_.tmod 19 = d) (hd : ¬ 16 < d) (hd19 : d < 19) :
    Calls Tryd.prog 9 #[.int .u8 k_, .bool false] w fun e w' => e = .returned (.bool true) ∧ Below w.heap.size w w' := by
  have HG := Lib.hid hg
  have hdd : decide ((16 : Int) < (d : Int)) = false := decide_eq_false (by omega)
  have HTT : Hid (degT false d = [(0, (d : Int), []), (1, 0, [])]) := Lib.hid (by unfold degT; rw [if_neg hd]; simp)
  have HCH : Hid (chkN (degN d false) = fltOK) := Lib.hid (by have := deg_chk ⟨d, hd19⟩ false; simp only [] at this; rw [this, if_neg hd])
  clear hg hd
  go_enter Tryd.func9, Tryd.ntmps9
  go_wp2_with fail
  refine (known3_any _ HG.out).mono ?_
  rintro e w1 ⟨rfl, hb⟩
  have B1 := Lib.hid hb
  have HG1 := Lib.hid (HG.out.keep hb)
  clear hb HG
  go_upto_region 14 with (fail)
  obtain ⟨W, hW⟩ := named (((((w1.alloc (.cells #[.int .i64 0, .int .i64 0, .int .i64 0] 62)).alloc (.cells #[.slice (some ⟨w1.heap.size, 0, none⟩) 1 1, .slice none 0 0, .slice (some ⟨w1.heap.size + 1 + 1 + 1, 0, none⟩) 1 1] 26)).alloc (.cells #[.int .i64 0, .int .i64 (d : Int), .slice none 0 0] 60)).alloc (.cells #[.int .i64 0, .int .i64 (d : Int), .slice none 0 0] 60)).alloc (.cells #[.int .i64 1, .int .i64 0, .slice none 0 0] 60))
  rw [← hW]
  have zW : W.heap.size = w1.heap.size + 5 := by rw [hW]; simp
  have KN : Hid (Blk W (w1.heap.size + 1) #[.slice (some ⟨w1.heap.size, 0, none⟩) 1 1, .slice none 0 0, .slice (some ⟨w1.heap.size + 1 + 1 + 1, 0, none⟩) 1 1] 26) := by rw [hW]; exact Lib.hid (((((Blk.new _ _ _ _ (by simp)).old _).old _).old _))
  have KT0 : Hid (Blk W (w1.heap.size + 1 + 1 + 1) #[.int .i64 0, .int .i64 (d : Int), .slice none 0 0] 60) := by rw [hW]; exact Lib.hid ((Blk.new _ _ _ _ (by simp)).old _)
  have KO : Hid (Blk W (w1.heap.size + 1 + 1 + 1 + 1) #[.int .i64 1, .int .i64 0, .slice none 0 0] 60) := by rw [hW]; exact Lib.hid (Blk.new _ _ _ _ (by simp))
  have OV : Hid (W.ownsRow w1.heap.size 62 3 (.slice (some ⟨w1.heap.size, 0, none⟩) 1 1) 1 [.int .i64 0, .int .i64 0, .int .i64 0]) := by
    rw [hW]
    have h0 := World.ownsRow_lit (base := w1.heap.size) (e := 62) (size := 3) w1 #[.int .i64 0, .int .i64 0, .int .i64 0] 1 (Nat.le_refl _) (by simp [maxLen]) (by simp)
    exact Lib.hid ((((h0.alloc _).alloc _).alloc _).alloc _)
  have BW : Hid (Below w1.heap.size w1 W) := by
    rw [hW]
    iterate 5 (refine Lib.hid (Below.alloc ?_ (by simp <;> omega) _) <;> skip)
    exact Below.refl _ _
  clear hW
  obtain ⟨i0, hi, hz0, hz1, hz2⟩ := info_parts infoRTab
  -- the second table
  have hbl : Below W.heap.size W (W.alloc (.cells #[.int .i64 1, .int .i64 0, .slice none 0 0] 60)) := below_new _
  obtain ⟨v2, w2, hr2, ho2, hg2⟩ := run_append_arg_grows (P := Tryd.prog) (w := W.alloc (.cells #[.int .i64 1, .int .i64 0, .slice none 0 0] 60)) 24 24 60 i0 (.agg #[.int .i64 0, .int .i64 0, .slice none 0 0]) 3 40 Tryd.underlying24 hi hz0 hz1 hz2 rfl (by decide)
    ⟨w1.heap.size + 1 + 1 + 1, 0, none⟩ 1 1 [.int .i64 0, .int .i64 (d : Int), .slice none 0 0] (by simp) (fun j u hu => by
      have kt := KT0.out.keep hbl
      obtain ⟨k0, k1, k2, -, -, -⟩ := kt.o3
      match j, hu with
      | 0, hu => simp at hu; subst hu; exact k0
      | 1, hu => simp at hu; subst hu; exact k1
      | 2, hu => simp at hu; subst hu; exact k2)
    ⟨W.heap.size, 0, none⟩ 1 1 [.int .i64 1, .int .i64 0, .slice none 0 0] (by simp) (fun j u hu => by
      have kt : Blk (W.alloc (.cells #[.int .i64 1, .int .i64 0, .slice none 0 0] 60)) W.heap.size #[.int .i64 1, .int .i64 0, .slice none 0 0] 60 := Blk.new _ _ _ _ rfl
      obtain ⟨k0, k1, k2, -, -, -⟩ := kt.o3
      match j, hu with
      | 0, hu => simp at hu; subst hu; exact k0
      | 1, hu => simp at hu; subst hu; exact k1
      | 2, hu => simp at hu; subst hu; exact k2) (by omega) (by simp [maxLen]) (by omega)
  simp only [Nat.reduceAdd, List.cons_append, List.nil_append] at ho2
  obtain ⟨tq, tc, rfl⟩ := own_shape ho2
  have hb2 : Below W.heap.size W w2 := hbl.grown hg2 hbl.size (fun k hk => by cases hk)
  have KN2 := Lib.hid (KN.out.keep hb2)
  have OV2 := Lib.hid (owns_below OV.out hb2)
  have BW2 := Lib.hid (BW.out.trans (hb2.mono (by omega)))
  have HR2 := Lib.hid hr2
  have HO2 := Lib.hid ho2
  have zw2 := hb2.size
  obtain ⟨n0, n1, n2, -, -, -⟩ := KN.out.o3
  obtain ⟨p0, p1, p2, -, -, -⟩ := KO.out.o3
  obtain ⟨d0, d1, d2, f0, f1, f2⟩ := KN2.out.o3
  have ZW := Lib.hid zW
  have ZW2 := Lib.hid zw2
  clear zW zw2
  clear hr2 ho2 hg2 hb2 hbl
  go_wp2_with (at_builtin; refine wpList_append_run rfl _ _ 24 rfl _ _ _ rfl rfl HR2.out ?_)
  obtain ⟨WL, hWL⟩ := named (w2.setCell ⟨w1.heap.size + 1, 2, none⟩ (.slice tq 2 tc))
  rw [← hWL]
  have HDL : Hid (DegR w1.heap.size w1 false tq tc [.int .i64 0, .int .i64 (d : Int), .slice none 0 0, .int .i64 1, .int .i64 0, .slice none 0 0] 0 0 (some ⟨w1.heap.size, 0, none⟩) none 1 0 WL) := by
    rw [hWL]
    exact Lib.hid ⟨owns_set OV2.out KN2.out (by decide) 2 _, World.ownsRow_nil _ _ _ _, owns_set (owns_low HO2.out (by have := ZW.out; simp; omega)) KN2.out (by decide) 2 _, by simpa using KN2.out.set 2 (.slice tq 2 tc), BW2.out.setCell (by simp only []; omega) _, by have := ZW.out; have := ZW2.out; simp; omega⟩
  clear hWL KN KT0 KO OV BW KN2 OV2 BW2 HR2 HO2 n0 n1 n2 p0 p1 p2 d0 d1 d2 f0 f1 f2 hi hz0 hz1 hz2
  go_loopw [9, 10] (fun i _ wr => ∃ (k : Nat) (vq aq : Option Addr) (vc ac : Nat), k ≤ d ∧ i = .int .i64 k ∧ Hid (DegR w1.heap.size w1 false tq tc [.int .i64 0, .int .i64 (d : Int), .slice none 0 0, .int .i64 1, .int .i64 0, .slice none 0 0] k k vq aq vc ac wr)) (fun i _ _ => d - (intOf i).toNat)
  case atStart => exact ⟨0, _, _, _, _, Nat.zero_le _, rfl, HDL⟩
  case round =>
    obtain ⟨k, vq, aq, vc, ac, hk, rfl, HD⟩ := hrel
    clear HDL
    obtain ⟨d0, d1, d2, -, -, -⟩ := HD.out.n.o3
    by_cases hlt : k < d
    · have hli : (k : Int) < (d : Int) := by omega
      obtain ⟨q, c, w3, hr, hn, hD2⟩ := HD.out.vert (by omega)
      have HRR := Lib.hid hr
      have HD2 := Lib.hid hD2
      obtain ⟨m0, m1, m2, f0, f1, f2⟩ := hn.o3
      have hnl := hn.lt
      clear hr hD2 hn
      go_upto_region 22 with (at_builtin; refine wpList_append_run rfl _ _ 22 rfl _ _ _ rfl rfl HRR.out ?_)
      obtain ⟨WM, hWM⟩ := named ((w3.setCell ⟨w1.heap.size + 1, 0, none⟩ (.slice q (k + 1 + 1) c)).alloc (.cells #[.int .i64 0, .int .i64 ((k : Int) + 1), .int .i64 0] 70))
      rw [← hWM]
      have HM : Hid (DegR w1.heap.size w1 false tq tc [.int .i64 0, .int .i64 (d : Int), .slice none 0 0, .int .i64 1, .int .i64 0, .slice none 0 0] (k + 1) k q aq c ac WM) := by rw [hWM]; exact Lib.hid (HD2.out.alloc _)
      have KA : Hid (Blk WM w3.heap.size #[.int .i64 0, .int .i64 ((k : Int) + 1), .int .i64 0] 70) := by rw [hWM]; exact Lib.hid (Blk.new _ _ _ _ (by simp))
      clear hWM d0 d1 d2 m0 m1 m2 f0 f1 f2 HD2 HRR hnl
      obtain ⟨q', c', w4, hr, hn, hD3⟩ := HM.out.arc (by omega) (x := (0, (k : Int) + 1, 0)) (by simp)
      have HRR := Lib.hid hr
      have HD3 := Lib.hid hD3
      obtain ⟨n0, n1, n2, -, -, -⟩ := HM.out.n.o3
      obtain ⟨a0, a1, a2, -, -, -⟩ := KA.out.o3
      obtain ⟨m0, m1, m2, f0, f1, f2⟩ := hn.o3
      clear hr hD3 hn
      go_wp2_with (at_builtin; refine wpList_append_run rfl _ _ 23 rfl _ _ _ rfl rfl HRR.out ?_)
      go_roundw
      case rel => exact ⟨k + 1, q, q', c, c', by omega, by go_num, HD3⟩
      case measure => simp [intOf]; omega
    · have hli : ¬ (k : Int) < (d : Int) := by omega
      obtain rfl : k = d := by omega
      have NV := Lib.hid (HD.out.net (by omega) HTT.out rfl rfl rfl)
      have hzr := HD.out.size
      obtain ⟨WE, hWE⟩ := named (wr.alloc (.cells #[.slice none 0 0, .int .i64 0] 41))
      have BE' : Below wr.heap.size wr WE := by rw [hWE]; exact below_new _
      have WG : Hid (WrongV WE (.agg #[.slice none 0 0, .int .i64 0]) [] 0) := Lib.hid ⟨_, rfl, Or.inl ⟨rfl, rfl⟩⟩
      have KW : Hid (Blk WE wr.heap.size #[.slice none 0 0, .int .i64 0] 41) := by rw [hWE]; exact Lib.hid (Blk.new _ _ _ _ rfl)
      have HWE := Lib.hid hWE
      go_wp2_with fail
      rw [← HWE.out]
      clear hWE
      have KN := Lib.hid (HD.out.n.keep BE')
      have VN := Lib.hid (NV.out.below BE')
      have BE := Lib.hid (HD.out.low.trans (BE'.mono (by omega)))
      have HG2 := Lib.hid (HG1.out.keep BE.out)
      clear BE' d0 d1 d2
      have hGS : Grows (fun w' => Below WE.heap.size WE w') := Grows.below WE
      refine' wp_growL _ (fun w' => Below WE.heap.size WE w') [[], [0], [1], [], [2, 3], [4]] (Fact.lit _ :: Fact.prop _ _ :: Fact.prop _ _ :: Fact.lit _ :: Fact.lit _ :: Fact.lit _ :: []) (by kernel_rfl) rfl (by kernel_rfl) (Below.refl _ _).drew ?seqfinoutok
      case' seqfinoutok => skip
      (first | (refine' grow_skip rfl ?wt7 ?put7 ?next7; (case wt7 => rfl)) | (refine' grow_lit rfl ?wt7 ?run7 ?put7 ?next7; (case wt7 => rfl); (case run7 => (intro w' hS H; clear H; (obtain ⟨a0, a1, a2, -, -, -⟩ := (KN.out.keep hS).o3); (obtain ⟨g0, g1, -, -⟩ := (KW.out.keep hS).o2); clear hS; go_simp; first | done | exact rfl)))); (case put7 => (simp only [Act.put, List.setIfInBounds_toArray, List.set_cons_zero, List.set_cons_succ]; first | done | exact rfl)); (case' next7 => skip)
      (refine' grow_callP (p := fun v w => NetV w v (degN k false)) (hp := fun v w w' h hb => h.below hb) rfl Tryd.func14 (by kernel_rfl) rfl hGS rfl ?wt19 ?run19 ?put19 ?next19; (case wt19 => rfl); (case run19 => (intro w' hS H; exact vtoF (VN.out.below hS) (deg_few k false hd19))); (case put19 => (intro v; simp only [Act.put, List.setIfInBounds_toArray, List.set_cons_zero, List.set_cons_succ]; first | done | exact rfl)); (case' next19 => intro v1))
      (refine' grow_callP (p := fun v w => FaultV w v ([] : List (ByteArray × Int)) 0) (hp := fun v w w' h hb => h.below hb) rfl Tryd.func13 (by kernel_rfl) rfl hGS rfl ?wt20 ?run20 ?put20 ?next20; (case wt20 => rfl); (case run20 => (intro w' hS H; (have h1 : NetV w' v1 (degN k false) := H 1 (by decide)); exact vcheckE h1 (deg_few k false hd19).small (deg_in k false hd19) HCH.out)); (case put20 => (intro v; simp only [Act.put, List.setIfInBounds_toArray, List.set_cons_zero, List.set_cons_succ]; first | done | exact rfl)); (case' next20 => intro v2))
      (first | (refine' grow_skip rfl ?wt8 ?put8 ?next8; (case wt8 => rfl)) | (refine' grow_lit rfl ?wt8 ?run8 ?put8 ?next8; (case wt8 => rfl); (case run8 => (intro w' hS H; clear H; (obtain ⟨a0, a1, a2, -, -, -⟩ := (KN.out.keep hS).o3); (obtain ⟨g0, g1, -, -⟩ := (KW.out.keep hS).o2); clear hS; go_simp; first | done | exact rfl)))); (case put8 => (simp only [Act.put, List.setIfInBounds_toArray, List.set_cons_zero, List.set_cons_succ]; first | done | exact rfl)); (case' next8 => skip)
      (refine' grow_call (u := .bool true) rfl Tryd.func12 (by kernel_rfl) rfl hGS rfl ?wt21 ?run21 ?put21 ?next21; (case wt21 => rfl); (case run21 => (intro w' hS H; exact tells_post _ _ ([] : List (ByteArray × Int)) 0 w' (HG2.out.keep hS) (H 2 (by decide)) (WG.out.below hS) (Or.inl ⟨rfl, rfl⟩))); (case put21 => (simp only [Act.put, List.setIfInBounds_toArray, List.set_cons_zero, List.set_cons_succ]; first | done | exact rfl)); (case' next21 => skip))
      (first | (refine' grow_skip rfl ?wt9 ?put9 ?next9; (case wt9 => rfl)) | (refine' grow_lit rfl ?wt9 ?run9 ?put9 ?next9; (case wt9 => rfl); (case run9 => (intro w' hS H; clear H; (obtain ⟨a0, a1, a2, -, -, -⟩ := (KN.out.keep hS).o3); (obtain ⟨g0, g1, -, -⟩ := (KW.out.keep hS).o2); clear hS; go_simp; first | done | exact rfl)))); (case put9 => (simp only [Act.put, List.setIfInBounds_toArray, List.set_cons_zero, List.set_cons_succ]; first | done | exact rfl)); (case' next9 => skip)
      intro w9 hb _
      have HF := Lib.hid (B1.out.trans ((BE.out.trans (hb.mono (by have := BE.out.size; omega))).mono B1.out.size))
      clear hb hGS
      go_wp2_with fail
      go_ret
      exact ⟨rfl, HF.out⟩

set_option maxHeartbeats 8000000 in
set_option maxRecDepth 100000 in
theorem deg_out_big (k_ : Int) (d : Nat) (w : World) (hg : ErrT w) (hk0 : 0 ≤ k_) (hk1 : k_ ≤ 255) (hmod : k_.tmod 19 = d) (hd : 16 < d) (hd19 : d < 19) :
    Calls Tryd.prog 9 #[.int .u8 k_, .bool false] w fun e w' => e = .returned (.bool true) ∧ Below w.heap.size w w' := by
  have HG := Lib.hid hg
  have hdd : decide ((16 : Int) < (d : Int)) = true := decide_eq_true (by omega)
  have HTT : Hid (degT false d = [(0, 0, []), (1, 0, [])]) := Lib.hid (by unfold degT; rw [if_pos hd]; simp)
  have HCH : Hid (chkN (degN d false) = ([(vertB, 0)], 4)) := Lib.hid (by have := deg_chk ⟨d, hd19⟩ false; simp only [] at this; rw [this, if_pos hd])
  clear hg hd
  go_enter Tryd.func9, Tryd.ntmps9
  go_wp2_with fail
  refine (known3_any _ HG.out).mono ?_
  rintro e w1 ⟨rfl, hb⟩
  have B1 := Lib.hid hb
  have HG1 := Lib.hid (HG.out.keep hb)
  clear hb HG
  go_upto_region 14 with (fail)
  obtain ⟨W, hW⟩ := named (((((w1.alloc (.cells #[.int .i64 0, .int .i64 0, .int .i64 0] 62)).alloc (.cells #[.slice (some ⟨w1.heap.size, 0, none⟩) 1 1, .slice none 0 0, .slice (some ⟨w1.heap.size + 1 + 1 + 1, 0, none⟩) 1 1] 26)).alloc (.cells #[.int .i64 0, .int .i64 0, .slice none 0 0] 60)).alloc (.cells #[.int .i64 0, .int .i64 0, .slice none 0 0] 60)).alloc (.cells #[.int .i64 1, .int .i64 0, .slice none 0 0] 60))
  rw [← hW]
  have zW : W.heap.size = w1.heap.size + 5 := by rw [hW]; simp
  have KN : Hid (Blk W (w1.heap.size + 1) #[.slice (some ⟨w1.heap.size, 0, none⟩) 1 1, .slice none 0 0, .slice (some ⟨w1.heap.size + 1 + 1 + 1, 0, none⟩) 1 1] 26) := by rw [hW]; exact Lib.hid (((((Blk.new _ _ _ _ (by simp)).old _).old _).old _))
  have KT0 : Hid (Blk W (w1.heap.size + 1 + 1 + 1) #[.int .i64 0, .int .i64 0, .slice none 0 0] 60) := by rw [hW]; exact Lib.hid ((Blk.new _ _ _ _ (by simp)).old _)
  have KO : Hid (Blk W (w1.heap.size + 1 + 1 + 1 + 1) #[.int .i64 1, .int .i64 0, .slice none 0 0] 60) := by rw [hW]; exact Lib.hid (Blk.new _ _ _ _ (by simp))
  have OV : Hid (W.ownsRow w1.heap.size 62 3 (.slice (some ⟨w1.heap.size, 0, none⟩) 1 1) 1 [.int .i64 0, .int .i64 0, .int .i64 0]) := by
    rw [hW]
    have h0 := World.ownsRow_lit (base := w1.heap.size) (e := 62) (size := 3) w1 #[.int .i64 0, .int .i64 0, .int .i64 0] 1 (Nat.le_refl _) (by simp [maxLen]) (by simp)
    exact Lib.hid ((((h0.alloc _).alloc _).alloc _).alloc _)
  have BW : Hid (Below w1.heap.size w1 W) := by
    rw [hW]
    iterate 5 (refine Lib.hid (Below.alloc ?_ (by simp <;> omega) _) <;> skip)
    exact Below.refl _ _
  clear hW
  obtain ⟨i0, hi, hz0, hz1, hz2⟩ := info_parts infoRTab
  -- the second table
  have hbl : Below W.heap.size W (W.alloc (.cells #[.int .i64 1, .int .i64 0, .slice none 0 0] 60)) := below_new _
  obtain ⟨v2, w2, hr2, ho2, hg2⟩ := run_append_arg_grows (P := Tryd.prog) (w := W.alloc (.cells #[.int .i64 1, .int .i64 0, .slice none 0 0] 60)) 24 24 60 i0 (.agg #[.int .i64 0, .int .i64 0, .slice none 0 0]) 3 40 Tryd.underlying24 hi hz0 hz1 hz2 rfl (by decide)
    ⟨w1.heap.size + 1 + 1 + 1, 0, none⟩ 1 1 [.int .i64 0, .int .i64 0, .slice none 0 0] (by simp) (fun j u hu => by
      have kt := KT0.out.keep hbl
      obtain ⟨k0, k1, k2, -, -, -⟩ := kt.o3
      match j, hu with
      | 0, hu => simp at hu; subst hu; exact k0
      | 1, hu => simp at hu; subst hu; exact k1
      | 2, hu => simp at hu; subst hu; exact k2)
    ⟨W.heap.size, 0, none⟩ 1 1 [.int .i64 1, .int .i64 0, .slice none 0 0] (by simp) (fun j u hu => by
      have kt : Blk (W.alloc (.cells #[.int .i64 1, .int .i64 0, .slice none 0 0] 60)) W.heap.size #[.int .i64 1, .int .i64 0, .slice none 0 0] 60 := Blk.new _ _ _ _ rfl
      obtain ⟨k0, k1, k2, -, -, -⟩ := kt.o3
      match j, hu with
      | 0, hu => simp at hu; subst hu; exact k0
      | 1, hu => simp at hu; subst hu; exact k1
      | 2, hu => simp at hu; subst hu; exact k2) (by omega) (by simp [maxLen]) (by omega)
  simp only [Nat.reduceAdd, List.cons_append, List.nil_append] at ho2
  obtain ⟨tq, tc, rfl⟩ := own_shape ho2
  have hb2 : Below W.heap.size W w2 := hbl.grown hg2 hbl.size (fun k hk => by cases hk)
  have KN2 := Lib.hid (KN.out.keep hb2)
  have OV2 := Lib.hid (owns_below OV.out hb2)
  have BW2 := Lib.hid (BW.out.trans (hb2.mono (by omega)))
  have HR2 := Lib.hid hr2
  have HO2 := Lib.hid ho2
  have zw2 := hb2.size
  obtain ⟨n0, n1, n2, -, -, -⟩ := KN.out.o3
  obtain ⟨p0, p1, p2, -, -, -⟩ := KO.out.o3
  obtain ⟨d0, d1, d2, f0, f1, f2⟩ := KN2.out.o3
  have ZW := Lib.hid zW
  have ZW2 := Lib.hid zw2
  clear zW zw2
  clear hr2 ho2 hg2 hb2 hbl
  go_wp2_with (at_builtin; refine wpList_append_run rfl _ _ 24 rfl _ _ _ rfl rfl HR2.out ?_)
  obtain ⟨WL, hWL⟩ := named (w2.setCell ⟨w1.heap.size + 1, 2, none⟩ (.slice tq 2 tc))
  rw [← hWL]
  have HDL : Hid (DegR w1.heap.size w1 false tq tc [.int .i64 0, .int .i64 0, .slice none 0 0, .int .i64 1, .int .i64 0, .slice none 0 0] 0 0 (some ⟨w1.heap.size, 0, none⟩) none 1 0 WL) := by
    rw [hWL]
    exact Lib.hid ⟨owns_set OV2.out KN2.out (by decide) 2 _, World.ownsRow_nil _ _ _ _, owns_set (owns_low HO2.out (by have := ZW.out; simp; omega)) KN2.out (by decide) 2 _, by simpa using KN2.out.set 2 (.slice tq 2 tc), BW2.out.setCell (by simp only []; omega) _, by have := ZW.out; have := ZW2.out; simp; omega⟩
  clear hWL KN KT0 KO OV BW KN2 OV2 BW2 HR2 HO2 n0 n1 n2 p0 p1 p2 d0 d1 d2 f0 f1 f2 hi hz0 hz1 hz2
  go_loopw [9, 10] (fun i _ wr => ∃ (k : Nat) (vq aq : Option Addr) (vc ac : Nat), k ≤ d ∧ i = .int .i64 k ∧ Hid (DegR w1.heap.size w1 false tq tc [.int .i64 0, .int .i64 0, .slice none 0 0, .int .i64 1, .int .i64 0, .slice none 0 0] k k vq aq vc ac wr)) (fun i _ _ => d - (intOf i).toNat)
  case atStart => exact ⟨0, _, _, _, _, Nat.zero_le _, rfl, HDL⟩
  case round =>
    obtain ⟨k, vq, aq, vc, ac, hk, rfl, HD⟩ := hrel
    clear HDL
    obtain ⟨d0, d1, d2, -, -, -⟩ := HD.out.n.o3
    by_cases hlt : k < d
    · have hli : (k : Int) < (d : Int) := by omega
      obtain ⟨q, c, w3, hr, hn, hD2⟩ := HD.out.vert (by omega)
      have HRR := Lib.hid hr
      have HD2 := Lib.hid hD2
      obtain ⟨m0, m1, m2, f0, f1, f2⟩ := hn.o3
      have hnl := hn.lt
      clear hr hD2 hn
      go_upto_region 22 with (at_builtin; refine wpList_append_run rfl _ _ 22 rfl _ _ _ rfl rfl HRR.out ?_)
      obtain ⟨WM, hWM⟩ := named ((w3.setCell ⟨w1.heap.size + 1, 0, none⟩ (.slice q (k + 1 + 1) c)).alloc (.cells #[.int .i64 0, .int .i64 ((k : Int) + 1), .int .i64 0] 70))
      rw [← hWM]
      have HM : Hid (DegR w1.heap.size w1 false tq tc [.int .i64 0, .int .i64 0, .slice none 0 0, .int .i64 1, .int .i64 0, .slice none 0 0] (k + 1) k q aq c ac WM) := by rw [hWM]; exact Lib.hid (HD2.out.alloc _)
      have KA : Hid (Blk WM w3.heap.size #[.int .i64 0, .int .i64 ((k : Int) + 1), .int .i64 0] 70) := by rw [hWM]; exact Lib.hid (Blk.new _ _ _ _ (by simp))
      clear hWM d0 d1 d2 m0 m1 m2 f0 f1 f2 HD2 HRR hnl
      obtain ⟨q', c', w4, hr, hn, hD3⟩ := HM.out.arc (by omega) (x := (0, (k : Int) + 1, 0)) (by simp)
      have HRR := Lib.hid hr
      have HD3 := Lib.hid hD3
      obtain ⟨n0, n1, n2, -, -, -⟩ := HM.out.n.o3
      obtain ⟨a0, a1, a2, -, -, -⟩ := KA.out.o3
      obtain ⟨m0, m1, m2, f0, f1, f2⟩ := hn.o3
      clear hr hD3 hn
      go_wp2_with (at_builtin; refine wpList_append_run rfl _ _ 23 rfl _ _ _ rfl rfl HRR.out ?_)
      go_roundw
      case rel => exact ⟨k + 1, q, q', c, c', by omega, by go_num, HD3⟩
      case measure => simp [intOf]; omega
    · have hli : ¬ (k : Int) < (d : Int) := by omega
      obtain rfl : k = d := by omega
      have NV := Lib.hid (HD.out.net (by omega) HTT.out rfl rfl rfl)
      have hzr := HD.out.size
      obtain ⟨WE0, hWE0⟩ := named (wr.alloc (.cells #[.slice none 0 0, .int .i64 0] 41))
      have hb0 : Below wr.heap.size wr WE0 := by rw [hWE0]; exact below_new _
      have KW0 : Hid (Blk WE0 wr.heap.size #[.slice none 0 0, .int .i64 0] 41) := by rw [hWE0]; exact Lib.hid (Blk.new _ _ _ _ rfl)
      have HB0 := Lib.hid hb0
      have HWE0 := Lib.hid hWE0
      clear hb0 hWE0
      go_wp2_with fail
      rw [← HWE0.out]
      refine (at_post vertB 0 4 _).mono ?_
      rintro e w3 ⟨wv, rfl, hW, hb⟩
      obtain ⟨fq, fn, fc, rfl⟩ := hW.shape
      have kw := KW0.out.keep hb
      have hlw := kw.lt
      have hlz := KW0.out.lt
      obtain ⟨g0, g1, f0, f1⟩ := kw.o2
      obtain ⟨WE, hWE⟩ := named ((w3.setCell ⟨wr.heap.size, 0, none⟩ (.slice fq fn fc)).setCell ⟨wr.heap.size, 1, none⟩ (.int .i64 4))
      have BE' : Below wr.heap.size wr WE := by
        rw [hWE]
        iterate 2 (refine Below.setCell ?_ (by simp only []; omega) _)
        exact HB0.out.trans (hb.mono HB0.out.size)
      have WG : Hid (WrongV WE (.agg #[.slice fq fn fc, .int .i64 4]) [(vertB, 0)] 4) := by rw [hWE]; exact Lib.hid (wrong_set kw (fun s => by simp) (fun s => by simp) hW (.slice fq fn fc) (.int .i64 4))
      have KW : Hid (Blk WE wr.heap.size #[.slice fq fn fc, .int .i64 4] 41) := by rw [hWE]; exact Lib.hid (by simpa using (kw.set 0 (.slice fq fn fc)).set 1 (.int .i64 4))
      have HWE := Lib.hid hWE
      go_wp2_with fail
      rw [← HWE.out]
      clear g0 g1 f0 f1 kw hW hb hWE HB0 KW0 HWE0
      have KN := Lib.hid (HD.out.n.keep BE')
      have VN := Lib.hid (NV.out.below BE')
      have BE := Lib.hid (HD.out.low.trans (BE'.mono (by omega)))
      have HG2 := Lib.hid (HG1.out.keep BE.out)
      clear BE' d0 d1 d2
      have hGS : Grows (fun w' => Below WE.heap.size WE w') := Grows.below WE
      refine' wp_growL _ (fun w' => Below WE.heap.size WE w') [[], [0], [1], [], [2, 3], [4]] (Fact.lit _ :: Fact.prop _ _ :: Fact.prop _ _ :: Fact.lit _ :: Fact.lit _ :: Fact.lit _ :: []) (by kernel_rfl) rfl (by kernel_rfl) (Below.refl _ _).drew ?seqfinoutbig
      case' seqfinoutbig => skip
      (first | (refine' grow_skip rfl ?wt10 ?put10 ?next10; (case wt10 => rfl)) | (refine' grow_lit rfl ?wt10 ?run10 ?put10 ?next10; (case wt10 => rfl); (case run10 => (intro w' hS H; clear H; (obtain ⟨a0, a1, a2, -, -, -⟩ := (KN.out.keep hS).o3); (obtain ⟨g0, g1, -, -⟩ := (KW.out.keep hS).o2); clear hS; go_simp; first | done | exact rfl)))); (case put10 => (simp only [Act.put, List.setIfInBounds_toArray, List.set_cons_zero, List.set_cons_succ]; first | done | exact rfl)); (case' next10 => skip)
      (refine' grow_callP (p := fun v w => NetV w v (degN k false)) (hp := fun v w w' h hb => h.below hb) rfl Tryd.func14 (by kernel_rfl) rfl hGS rfl ?wt22 ?run22 ?put22 ?next22; (case wt22 => rfl); (case run22 => (intro w' hS H; exact vtoF (VN.out.below hS) (deg_few k false hd19))); (case put22 => (intro v; simp only [Act.put, List.setIfInBounds_toArray, List.set_cons_zero, List.set_cons_succ]; first | done | exact rfl)); (case' next22 => intro v1))
      (refine' grow_callP (p := fun v w => FaultV w v ([(vertB, 0)] : List (ByteArray × Int)) 4) (hp := fun v w w' h hb => h.below hb) rfl Tryd.func13 (by kernel_rfl) rfl hGS rfl ?wt23 ?run23 ?put23 ?next23; (case wt23 => rfl); (case run23 => (intro w' hS H; (have h1 : NetV w' v1 (degN k false) := H 1 (by decide)); exact vcheckE h1 (deg_few k false hd19).small (deg_in k false hd19) HCH.out)); (case put23 => (intro v; simp only [Act.put, List.setIfInBounds_toArray, List.set_cons_zero, List.set_cons_succ]; first | done | exact rfl)); (case' next23 => intro v2))
      (first | (refine' grow_skip rfl ?wt11 ?put11 ?next11; (case wt11 => rfl)) | (refine' grow_lit rfl ?wt11 ?run11 ?put11 ?next11; (case wt11 => rfl); (case run11 => (intro w' hS H; clear H; (obtain ⟨a0, a1, a2, -, -, -⟩ := (KN.out.keep hS).o3); (obtain ⟨g0, g1, -, -⟩ := (KW.out.keep hS).o2); clear hS; go_simp; first | done | exact rfl)))); (case put11 => (simp only [Act.put, List.setIfInBounds_toArray, List.set_cons_zero, List.set_cons_succ]; first | done | exact rfl)); (case' next11 => skip)
      (refine' grow_call (u := .bool true) rfl Tryd.func12 (by kernel_rfl) rfl hGS rfl ?wt24 ?run24 ?put24 ?next24; (case wt24 => rfl); (case run24 => (intro w' hS H; exact tells_post _ _ ([(vertB, 0)] : List (ByteArray × Int)) 4 w' (HG2.out.keep hS) (H 2 (by decide)) (WG.out.below hS) (Or.inr (by simp)))); (case put24 => (simp only [Act.put, List.setIfInBounds_toArray, List.set_cons_zero, List.set_cons_succ]; first | done | exact rfl)); (case' next24 => skip))
      (first | (refine' grow_skip rfl ?wt12 ?put12 ?next12; (case wt12 => rfl)) | (refine' grow_lit rfl ?wt12 ?run12 ?put12 ?next12; (case wt12 => rfl); (case run12 => (intro w' hS H; clear H; (obtain ⟨a0, a1, a2, -, -, -⟩ := (KN.out.keep hS).o3); (obtain ⟨g0, g1, -, -⟩ := (KW.out.keep hS).o2); clear hS; go_simp; first | done | exact rfl)))); (case put12 => (simp only [Act.put, List.setIfInBounds_toArray, List.set_cons_zero, List.set_cons_succ]; first | done | exact rfl)); (case' next12 => skip)
      intro w9 hb _
      have HF := Lib.hid (B1.out.trans ((BE.out.trans (hb.mono (by have := BE.out.size; omega))).mono B1.out.size))
      clear hb hGS
      go_wp2_with fail
      go_ret
      exact ⟨rfl, HF.out⟩

theorem deg_walk (k_ : Int) (b : Bool) (w : World) (hg : ErrT w) (hk0 : 0 ≤ k_) (hk1 : k_ ≤ 255) :
    Calls Tryd.prog 9 #[.int .u8 k_, .bool b] w fun e w' => e = .returned (.bool true) ∧ Below w.heap.size w w' := by
  have hm0 : 0 ≤ k_.tmod 19 := Int.tmod_nonneg _ hk0
  have hm1 : k_.tmod 19 < 19 := Int.tmod_lt_of_pos _ (by omega)
  obtain ⟨d, hd⟩ : ∃ d : Nat, k_.tmod 19 = d := ⟨(k_.tmod 19).toNat, by omega⟩
  cases b with
  | true =>
    by_cases h : 16 < d
    · exact deg_in_big k_ d w hg hk0 hk1 hd h (by omega)
    · exact deg_in_ok k_ d w hg hk0 hk1 hd h (by omega)
  | false =>
    by_cases h : 16 < d
    · exact deg_out_big k_ d w hg hk0 hk1 hd h (by omega)
    · exact deg_out_ok k_ d w hg hk0 hk1 hd h (by omega)

set_option maxRecDepth 100000 in
theorem netDegrees_walks : Walks laidAll 9 Tryd.f9 := by
  intro H enc W args ds g
  obtain ⟨ps, hA⟩ := g.reads
  obtain ⟨base, hval⟩ := g.okay
  rw [Tryd.params9] at hA hval
  obtain ⟨v0, vs0, d0, ds0, p0, q0, hargs, rfl, rfl, h0, r0⟩ := trodAll_cons hA
  obtain ⟨v1, vs1, d1, ds1, p1, q1, rfl, rfl, rfl, h1, r1⟩ := trodAll_cons r0
  obtain ⟨rfl, rfl, rfl⟩ := trodAll_nil r1
  obtain rfl : args = #[v0, v1] := Array.toList_inj.1 hargs
  obtain ⟨x0, rfl, rfl, rfl, w0⟩ := open_int Tryd.underlying5 (hval 0 5 v0 rfl rfl) h0
  obtain ⟨x1, rfl, rfl, rfl⟩ := open_bool Tryd.underlying4 (hval 1 4 v1 rfl rfl) h1
  exact deg_walk x0 x1 W (errT_of_laid g.laid) (wfu8 w0).1 (wfu8 w0).2

theorem netDegrees_row : Rows.NetDegreesSaid :=
  OpenClaim.holds_of_wide 9 Tryd.f9 rfl rfl rfl rfl rfl rfl rfl ⟨rfl, rfl, rfl, rfl, rfl⟩ rfl rfl rfl rfl rfl (by kernel_rfl) Tryd.func9 (by kernel_rfl)
    (of_decide_eq_true (by kernel_rfl)) (by unfold Func.isWrapper; rw [if_neg (of_decide_eq_false (by kernel_rfl))]; exact ⟨rfl, rfl⟩)
    (fun os started H enc _ => law_lifted (s := Rows.netDegreesSpec) (L := laidAll) Tryd.func9 (by kernel_rfl) rfl (by kernel_rfl)
      (fun H ds hl => by
        rw [Tryd.params9] at hl
        match ds, hl with
        | [_, _], _ => exact ⟨rfl, rfl, rfl⟩)
      (by kernel_rfl) os started H enc
      (ChangeSpec.witness_at (enc := enc) (C := Tryd.checked) (os := os) (X := fun w _ => laidMetH Tryd.prog laidAll w) false (laidWorld os) #[.int .u8 0, .bool false] 8 rfl (by kernel_rfl) (by kernel_rfl) (by kernel_rfl) (by kernel_rfl) (by kernel_rfl) (laidWorld_met os _))
      netDegrees_walks)

theorem netDegrees_card : Rows.NetDegreesCardSaid :=
  Claim7.holds_tied_plain_at .later [] laidKindsAll true (Rows.netDegreesCard.stood.harness) true
    netDegrees_row (fun _ h => by cases h) (by kernel_rfl) (fun _ h => by cases h) netDegrees_row_tie rfl ⟨rfl, rfl⟩ (by kernel_rfl) rfl
    (fun f fn hf hfn => by
      obtain rfl : f = 9 := Option.some.inj ((show Tryd.prog.funcNamed "roundsman/roundsmanlaw3.NetDegrees" = some 9 by kernel_rfl).symm.trans hf) |>.symm
      obtain rfl : fn = Tryd.f9 := (Option.some.inj (Tryd.func9.symm.trans hfn)).symm
      exact ⟨by kernel_rfl, fun j t ht => by
        rw [Tryd.params9] at ht
        exact stand_all #[5, 4] (by kernel_rfl) j t ht⟩)
    (by kernel_rfl)
#print axioms netDegrees_card

end Go.Proofs.YtbdompngabokgaaDoor
