/-
  The laws of cuts' own beginning: two pairs with one edge between.
-/
import Derived.Test.YthfljimgpcignaaGreatDoorG28
import Derived.Test.YthfljimgpcignaaGreatDoorCtN
import Derived.Test.YthfljimgpcignaaGreatDoorG20
import Derived.Test.YthfljimgpcignaaGreatDoorG21
namespace Go.Proofs.YthfljimgpcignaaGreatDoor
open Go.RowKit Go.Sort

def KQ11 : List (Int × Int) := [(0, 0), (0, 9), (90, 0), (90, 9)]
def KE11 : Edg := [(0, 1), (1, 0), (2, 3), (3, 2), (1, 2)]
abbrev kqC : Array Value := #[.int .i64 0, .int .i64 0, .int .i64 0, .int .i64 9, .int .i64 90, .int .i64 0, .int .i64 90, .int .i64 9]
abbrev keC11 : Array Value := #[.int .i64 0, .int .i64 1, .int .i64 1, .int .i64 0, .int .i64 2, .int .i64 3, .int .i64 3, .int .i64 2, .int .i64 1, .int .i64 2]
theorem kq_prs {w : World} {g : Nat} (h : Blk w g kqC 44) : Prs w (.slice (some ⟨g, 0, none⟩) 4 4) KQ11 := by
  refine Or.inr ⟨by decide, g, 0, 4, by decide, by omega, rfl, fun i hi => ?_⟩
  rw [Nat.zero_add]
  have hi' : i < 4 := hi
  match i, hi' with
  | 0, _ => exact ⟨h.cell 0 rfl, h.cell 1 rfl⟩
  | 1, _ => exact ⟨h.cell 2 rfl, h.cell 3 rfl⟩
  | 2, _ => exact ⟨h.cell 4 rfl, h.cell 5 rfl⟩
  | 3, _ => exact ⟨h.cell 6 rfl, h.cell 7 rfl⟩
theorem kq_one {w : World} {g : Nat} (h : Blk w g kqC 44) : Prs w (.slice (some ⟨g, 0, none⟩) 1 4) [(0, 0)] := by
  refine Or.inr ⟨by decide, g, 0, 4, by decide, by omega, rfl, fun i hi => ?_⟩
  rw [Nat.zero_add]
  have hi' : i < 1 := hi
  match i, hi' with
  | 0, _ => exact ⟨h.cell 0 rfl, h.cell 1 rfl⟩
theorem ke11_prs {w : World} {g : Nat} (h : Blk w g keC11 44) : Prs w (.slice (some ⟨g, 0, none⟩) 5 5) (zE KE11) := by
  refine Or.inr ⟨by decide, g, 0, 5, by decide, by omega, rfl, fun i hi => ?_⟩
  rw [Nat.zero_add]
  have hi' : i < 5 := hi
  match i, hi' with
  | 0, _ => exact ⟨h.cell 0 rfl, h.cell 1 rfl⟩
  | 1, _ => exact ⟨h.cell 2 rfl, h.cell 3 rfl⟩
  | 2, _ => exact ⟨h.cell 4 rfl, h.cell 5 rfl⟩
  | 3, _ => exact ⟨h.cell 6 rfl, h.cell 7 rfl⟩
  | 4, _ => exact ⟨h.cell 8 rfl, h.cell 9 rfl⟩
theorem kq_ok : OkC KQ11 (zE KE11) := by
  refine ⟨by decide, by decide, by decide, by decide, fun x hx => ?_⟩
  simp only [KE11, zE, List.map_cons, List.map_nil, List.mem_cons, List.not_mem_nil, or_false] at hx
  unfold zPair
  rcases hx with rfl | rfl | rfl | rfl | rfl <;> decide
theorem kq_ord {o : List Nat} (h : OrdL KQ11 0 o) : o = [0, 1, 2, 3] := h.uniq (m := KQ11) (e := 0) ⟨by decide, by decide⟩ rfl fun _ _ _ _ h => h
theorem kq_cross (S : VSet) : crossS S KE11 = b1 (S 0 != S 1) + b1 (S 1 != S 0) + b1 (S 2 != S 3) + b1 (S 3 != S 2) + b1 (S 1 != S 2) := by
  show (0 : Int) + _ + _ + _ + _ + _ = _
  rw [Int.zero_add]
  rfl
theorem kq_lo {S : VSet} (h1 : ∃ v, v < 4 ∧ S v = true) (h0 : ∃ v, v < 4 ∧ S v = false) : 1 ≤ crossS S KE11 := by
  rw [kq_cross]
  obtain ⟨u, hu, e1⟩ := h1
  obtain ⟨v, hv, e0⟩ := h0
  match u, hu, v, hv with
  | 0, _, 0, _ => simp_all
  | 0, _, 1, _ => rw [e1, e0]; cases S 2 <;> cases S 3 <;> decide
  | 0, _, 2, _ => rw [e1, e0]; cases S 1 <;> cases S 3 <;> decide
  | 0, _, 3, _ => rw [e1, e0]; cases S 1 <;> cases S 2 <;> decide
  | 1, _, 0, _ => rw [e1, e0]; cases S 2 <;> cases S 3 <;> decide
  | 1, _, 1, _ => simp_all
  | 1, _, 2, _ => rw [e1, e0]; cases S 0 <;> cases S 3 <;> decide
  | 1, _, 3, _ => rw [e1, e0]; cases S 0 <;> cases S 2 <;> decide
  | 2, _, 0, _ => rw [e1, e0]; cases S 1 <;> cases S 3 <;> decide
  | 2, _, 1, _ => rw [e1, e0]; cases S 0 <;> cases S 3 <;> decide
  | 2, _, 2, _ => simp_all
  | 2, _, 3, _ => rw [e1, e0]; cases S 0 <;> cases S 1 <;> decide
  | 3, _, 0, _ => rw [e1, e0]; cases S 1 <;> cases S 2 <;> decide
  | 3, _, 1, _ => rw [e1, e0]; cases S 0 <;> cases S 2 <;> decide
  | 3, _, 2, _ => rw [e1, e0]; cases S 0 <;> cases S 1 <;> decide
  | 3, _, 3, _ => simp_all
theorem kq_best {n : Nat} {L : List Spl} {s : Spl} (h : SplitsQ KQ11 KE11 L) (hs : BestAt L n s) : s = ⟨[true, true, false, false], 1, 0, 0⟩ := by
  obtain ⟨a, b, c, h1, -, -, o, V, near, far, ho, hq, hn, -, rfl, -, -⟩ := h.way 0 (by decide)
  obtain rfl := kq_ord ho
  have hn4 : near.length = 4 := hn
  have n0 : setB near 0 = true := hq.nearC.has 0 (by decide) (by decide)
  have n3 : setB near 3 = false := hq.nearC.none 3 (by decide) (by decide)
  have hl := hq.least (fun v => decide (v < 2)) ⟨by decide, by decide⟩
  have hv := hq.nearV
  rw [kq_cross] at hl hv
  rw [n0, n3] at hv
  have hV : V = 1 ∧ setB near 1 = true ∧ setB near 2 = false := by
    have hl2 : V ≤ 1 := hl
    cases e1 : setB near 1 <;> cases e2 : setB near 2 <;> rw [e1, e2] at hv
    · exact absurd (show V = 2 from hv.symm) (by omega)
    · exact absurd (show V = 5 from hv.symm) (by omega)
    · exact ⟨hv.symm, rfl, rfl⟩
    · exact absurd (show V = 2 from hv.symm) (by omega)
  obtain ⟨rfl, n1, n2⟩ := hV
  obtain rfl : near = [true, true, false, false] := setB_ext (by rw [hn4]; rfl) fun v hv => by
    have hv4 : v < 4 := by omega
    match v, hv4 with
    | 0, _ => rw [n0]; decide
    | 1, _ => rw [n1]; decide
    | 2, _ => rw [n2]; decide
    | 3, _ => rw [n3]; decide
  have hb : BestAt L 0 ⟨[true, true, false, false], 1, ((0 : Nat) : Int), 0⟩ := ⟨h1, fun i x hx => by
    have q := h.one hx
    have hlen : x.side.length = 4 := q.len
    obtain ⟨⟨v, hv, e1⟩, u, hu, e0⟩ := fair_parts (q.fair (by decide))
    have hx2 := kq_lo ⟨v, by omega, e1⟩ ⟨u, by omega, e0⟩
    rw [← q.cross] at hx2
    have hu0 := unevL_nn x.side
    show (1 : Int) < x.cross ∨ (1 : Int) = x.cross ∧ (unevL [true, true, false, false] < unevL x.side ∨ unevL [true, true, false, false] = unevL x.side ∧ 0 ≤ i)
    rw [show unevL [true, true, false, false] = 0 from by decide]
    omega⟩
  exact (hs.uniq hb).2
set_option maxHeartbeats 8000000 in
set_option maxRecDepth 100000 in
theorem known11_any : Known11C := by
  intro w hg
  have HG := Lib.hid hg
  have HB := Lib.hid (Below.refl w.heap.size w)
  clear hg
  obtain ⟨x1, hx1⟩ := named (w.alloc (.cells kqC 44))
  have hb : Below w.heap.size w x1 := by rw [hx1]; exact below_alloc1 _
  obtain ⟨g1, hg1⟩ : ∃ g, w.heap.size = g := ⟨_, rfl⟩
  have kb : Blk x1 g1 kqC 44 := by rw [hx1]; exact Blk.new _ _ _ _ hg1
  have HB_ := Lib.hid (bOn6 HB.out hb)
  clear HB
  have HB := HB_
  clear HB_
  have KP := Lib.hid (kb)
  have e1 := hx1.symm
  have z1 : Hid (x1.heap.size = w.heap.size + 1) := Lib.hid (by rw [hx1]; simp)
  clear hb kb hx1
  obtain ⟨x2, hx2⟩ := named (x1.alloc (.cells keC11 44))
  have hb : Below x1.heap.size x1 x2 := by rw [hx2]; exact below_alloc1 _
  obtain ⟨g2, hg2⟩ : ∃ g, x1.heap.size = g := ⟨_, rfl⟩
  have kb : Blk x2 g2 keC11 44 := by rw [hx2]; exact Blk.new _ _ _ _ hg2
  have HB_ := Lib.hid (bOn6 HB.out hb)
  have KP_ := Lib.hid (KP.out.keep hb)
  clear HB KP
  have HB := HB_
  have KP := KP_
  clear HB_ KP_
  have HE := Lib.hid (ke11_prs kb)
  have e2 := hx2.symm
  have z2 : Hid (x2.heap.size = x1.heap.size + 1) := Lib.hid (by rw [hx2]; simp)
  clear hb kb hx2
  go_enter Tryz.func4, Tryz.ntmps4
  go_wp2_with fail
  clear e1 e2 z1 z2
  refine (cbest_is _ _ _ _ _ (kq_prs KP.out) HE.out kq_ok).mono ?_
  rintro e w3 ⟨sv, s, n, L, rfl, hsv, hQ, hA, hb⟩
  obtain rfl := kq_best hQ hA
  simp only at hsv
  obtain ⟨sq, sc, rfl⟩ := hsv.shape
  have HSV := Lib.hid (show Bools w3 (.slice sq 4 sc) [true, true, false, false] from hsv)
  clear hsv hQ hA
  have HB_ := Lib.hid (bOn6 HB.out hb)
  have KP_ := Lib.hid (KP.out.keep hb)
  have HE_ := Lib.hid (HE.out.below hb)
  clear HB KP HE
  have HB := HB_
  have KP := KP_
  have HE := HE_
  clear HB_ KP_ HE_
  clear hb
  go_wp2_with fail
  obtain ⟨x3, hx3⟩ := named (w3.alloc (.cells #[.slice sq 4 sc, .int .i64 1, .int .i64 0, .int .i64 0] 36))
  have hb : Below w3.heap.size w3 x3 := by rw [hx3]; exact below_alloc1 _
  obtain ⟨g3, hg3⟩ : ∃ g, w3.heap.size = g := ⟨_, rfl⟩
  have kb : Blk x3 g3 #[.slice sq 4 sc, .int .i64 1, .int .i64 0, .int .i64 0] 36 := by rw [hx3]; exact Blk.new _ _ _ _ hg3
  have HB_ := Lib.hid (bOn6 HB.out hb)
  have KP_ := Lib.hid (KP.out.keep hb)
  have HE_ := Lib.hid (HE.out.below hb)
  have HSV_ := Lib.hid (HSV.out.below hb)
  clear HB KP HE HSV
  have HB := HB_
  have KP := KP_
  have HE := HE_
  have HSV := HSV_
  clear HB_ KP_ HE_ HSV_
  have KR := Lib.hid (kb)
  have e3 := hx3.symm
  have z3 : Hid (x3.heap.size = w3.heap.size + 1) := Lib.hid (by rw [hx3]; simp)
  clear hb kb hx3
  rw [e3]
  clear e3
  try rw [show w3.heap.size = g3 from by omega]
  clear z3
  refine (call_is _ _ _ _ _ (kq_prs KP.out) HE.out kq_ok).mono ?_
  rintro e w5 ⟨lv, L2, rfl, hS, hQ, hb⟩
  obtain ⟨lb, lo, lc, rfl, -⟩ := hS
  rw [hQ.len]
  clear hQ
  have HB_ := Lib.hid (bOn6 HB.out hb)
  have KP_ := Lib.hid (KP.out.keep hb)
  have HE_ := Lib.hid (HE.out.below hb)
  have HSV_ := Lib.hid (HSV.out.below hb)
  have KR_ := Lib.hid (KR.out.keep hb)
  clear HB KP HE HSV KR
  have HB := HB_
  have KP := KP_
  have HE := HE_
  have HSV := HSV_
  have KR := KR_
  clear HB_ KP_ HE_ HSV_ KR_
  clear hb
  go_wp2_with fail
  refine (cbest_one (kq_one KP.out) (show Prs _ (.slice none 0 0) [] from Or.inl ⟨rfl, none, 0, rfl, fun _ => rfl⟩) rfl).mono ?_
  rintro e w6 ⟨gf, rfl, hfa, hb⟩
  have HB_ := Lib.hid (bOn6 HB.out hb)
  have KP_ := Lib.hid (KP.out.keep hb)
  have HE_ := Lib.hid (HE.out.below hb)
  have HSV_ := Lib.hid (HSV.out.below hb)
  have KR_ := Lib.hid (KR.out.keep hb)
  clear HB KP HE HSV KR
  have HB := HB_
  have KP := KP_
  have HE := HE_
  have HSV := HSV_
  have KR := KR_
  clear HB_ KP_ HE_ HSV_ KR_
  clear hb
  have HFA := Lib.hid (hfa)
  clear hfa
  obtain ⟨c0, c1, c2, c3, -⟩ := KR.out.o4
  have cl := KR.out.lt
  go_wp2_with fail
  clear c0 c1 c2 c3 cl
  obtain ⟨x4, hx4⟩ := named (w6.alloc (.cells #[.slice none 0 0, .int .i64 0, .int .i64 0, .int .i64 0] 36))
  have hb : Below w6.heap.size w6 x4 := by rw [hx4]; exact below_alloc1 _
  obtain ⟨g4, hg4⟩ : ∃ g, w6.heap.size = g := ⟨_, rfl⟩
  have kb : Blk x4 g4 #[.slice none 0 0, .int .i64 0, .int .i64 0, .int .i64 0] 36 := by rw [hx4]; exact Blk.new _ _ _ _ hg4
  have HB_ := Lib.hid (bOn6 HB.out hb)
  have KP_ := Lib.hid (KP.out.keep hb)
  have HE_ := Lib.hid (HE.out.below hb)
  have HSV_ := Lib.hid (HSV.out.below hb)
  have KR_ := Lib.hid (KR.out.keep hb)
  have HFA_ := Lib.hid (HFA.out.keep hb)
  clear HB KP HE HSV KR HFA
  have HB := HB_
  have KP := KP_
  have HE := HE_
  have HSV := HSV_
  have KR := KR_
  have HFA := HFA_
  clear HB_ KP_ HE_ HSV_ KR_ HFA_
  have e4 := hx4.symm
  have z4 : Hid (x4.heap.size = w6.heap.size + 1) := Lib.hid (by rw [hx4]; simp)
  clear hb kb hx4
  rw [e4]
  clear e4
  obtain ⟨x5, hx5⟩ := named (x4.alloc (.cells #[.bool true, .bool true, .bool false, .bool false] 4))
  have hb : Below x4.heap.size x4 x5 := by rw [hx5]; exact below_alloc1 _
  obtain ⟨g5, hg5⟩ : ∃ g, x4.heap.size = g := ⟨_, rfl⟩
  have kb : Blk x5 g5 #[.bool true, .bool true, .bool false, .bool false] 4 := by rw [hx5]; exact Blk.new _ _ _ _ hg5
  have HB_ := Lib.hid (bOn6 HB.out hb)
  have KP_ := Lib.hid (KP.out.keep hb)
  have HE_ := Lib.hid (HE.out.below hb)
  have HSV_ := Lib.hid (HSV.out.below hb)
  have KR_ := Lib.hid (KR.out.keep hb)
  have HFA_ := Lib.hid (HFA.out.keep hb)
  clear HB KP HE HSV KR HFA
  have HB := HB_
  have KP := KP_
  have HE := HE_
  have HSV := HSV_
  have KR := KR_
  have HFA := HFA_
  clear HB_ KP_ HE_ HSV_ KR_ HFA_
  have HL := Lib.hid (four_bools kb)
  have e5 := hx5.symm
  have z5 : Hid (x5.heap.size = x4.heap.size + 1) := Lib.hid (by rw [hx5]; simp)
  clear hb kb hx5
  rw [e5]
  clear e5
  try rw [show w6.heap.size + 1 = g5 from by have := z4.out; omega]
  try rw [show w6.heap.size = g4 from by omega]
  clear z4 z5
  refine (sameB_is HSV.out HL.out (b := true) (by decide)).mono ?_
  rintro e w9 ⟨rfl, hb⟩
  have HB_ := Lib.hid (bOn6 HB.out hb)
  have KP_ := Lib.hid (KP.out.keep hb)
  have HE_ := Lib.hid (HE.out.below hb)
  have HSV_ := Lib.hid (HSV.out.below hb)
  have KR_ := Lib.hid (KR.out.keep hb)
  have HFA_ := Lib.hid (HFA.out.keep hb)
  have HL_ := Lib.hid (HL.out.below hb)
  clear HB KP HE HSV KR HFA HL
  have HB := HB_
  have KP := KP_
  have HE := HE_
  have HSV := HSV_
  have KR := KR_
  have HFA := HFA_
  have HL := HL_
  clear HB_ KP_ HE_ HSV_ KR_ HFA_ HL_
  clear hb
  clear HL
  go_wp2_with fail
  refine (at_any _ _ _ _).mono ?_
  rintro e w10 ⟨rfl, rfl⟩
  go_wp2_with fail
  refine (tells_laid w9 _ gf _ _ _ rfl (HG.out.below HG.out.lt HB.out) HFA.out.o3.1 HFA.out.o3.2.1 HFA.out.o3.2.2.1 (by decide)).mono ?_
  rintro e w11 ⟨rfl, hb⟩
  have HB_ := Lib.hid (bOn6 HB.out hb)
  have KP_ := Lib.hid (KP.out.keep hb)
  have HE_ := Lib.hid (HE.out.below hb)
  have HSV_ := Lib.hid (HSV.out.below hb)
  have KR_ := Lib.hid (KR.out.keep hb)
  have HFA_ := Lib.hid (HFA.out.keep hb)
  clear HB KP HE HSV KR HFA
  have HB := HB_
  have KP := KP_
  have HE := HE_
  have HSV := HSV_
  have KR := KR_
  have HFA := HFA_
  clear HB_ KP_ HE_ HSV_ KR_ HFA_
  clear hb
  go_wp2_with fail
  obtain ⟨x6, hx6⟩ := named (w11.alloc (.cells #[.bool true] 4))
  have hb : Below w11.heap.size w11 x6 := by rw [hx6]; exact below_alloc1 _
  obtain ⟨g6, hg6⟩ : ∃ g, w11.heap.size = g := ⟨_, rfl⟩
  have kb : Blk x6 g6 #[.bool true] 4 := by rw [hx6]; exact Blk.new _ _ _ _ hg6
  have HB_ := Lib.hid (bOn6 HB.out hb)
  have KP_ := Lib.hid (KP.out.keep hb)
  have HE_ := Lib.hid (HE.out.below hb)
  have HSV_ := Lib.hid (HSV.out.below hb)
  have KR_ := Lib.hid (KR.out.keep hb)
  have HFA_ := Lib.hid (HFA.out.keep hb)
  clear HB KP HE HSV KR HFA
  have HB := HB_
  have KP := KP_
  have HE := HE_
  have HSV := HSV_
  have KR := KR_
  have HFA := HFA_
  clear HB_ KP_ HE_ HSV_ KR_ HFA_
  have HL := Lib.hid (bools_of_blk (l := [true]) kb rfl (by decide))
  have e6 := hx6.symm
  have z6 : Hid (x6.heap.size = w11.heap.size + 1) := Lib.hid (by rw [hx6]; simp)
  clear hb kb hx6
  rw [e6]
  clear e6
  try rw [show w11.heap.size = g6 from by omega]
  clear z6
  refine (ccross_is _ _ _ [true] KE11 HL.out HE.out (by decide)).mono ?_
  rintro e w13 ⟨rfl, hb⟩
  have HB_ := Lib.hid (bOn6 HB.out hb)
  have KP_ := Lib.hid (KP.out.keep hb)
  have HE_ := Lib.hid (HE.out.below hb)
  have HSV_ := Lib.hid (HSV.out.below hb)
  have KR_ := Lib.hid (KR.out.keep hb)
  have HFA_ := Lib.hid (HFA.out.keep hb)
  have HL_ := Lib.hid (HL.out.below hb)
  clear HB KP HE HSV KR HFA HL
  have HB := HB_
  have KP := KP_
  have HE := HE_
  have HSV := HSV_
  have KR := KR_
  have HFA := HFA_
  have HL := HL_
  clear HB_ KP_ HE_ HSV_ KR_ HFA_ HL_
  clear hb
  rw [show crossS (setB [true]) KE11 = 2 from by decide]
  go_wp2_with fail
  go_ret
  exact ⟨rfl, HB.out⟩
end Go.Proofs.YthfljimgpcignaaGreatDoor
