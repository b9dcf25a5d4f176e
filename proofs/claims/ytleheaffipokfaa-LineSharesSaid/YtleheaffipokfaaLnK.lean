/-
  The laws' own beginning: four points in a row each way.
-/
import Derived.Test.YtleheaffipokfaaLnE
namespace Go.Proofs.Ytleheaffipokfaa
open Go.RowKit Go.Sort

abbrev kpC : Array Value := #[.int .i64 3, .int .i64 0, .int .i64 0, .int .i64 4, .int .i64 3, .int .i64 1, .int .i64 (-1), .int .i64 (-1)]
def KP : List (Int × Int) := [(3, 0), (0, 4), (3, 1), (-1, -1)]
theorem kp_prs {w : World} {g : Nat} (h : Blk w g kpC 30) : Prs w (.slice (some ⟨g, 0, none⟩) 4 4) KP := by
  refine Or.inr ⟨by decide, g, 0, 4, by decide, by omega, rfl, fun i hi => ?_⟩
  rw [Nat.zero_add]
  have hi' : i < 4 := hi
  match i, hi' with
  | 0, _ => exact ⟨h.cell 0 rfl, h.cell 1 rfl⟩
  | 1, _ => exact ⟨h.cell 2 rfl, h.cell 3 rfl⟩
  | 2, _ => exact ⟨h.cell 4 rfl, h.cell 5 rfl⟩
  | 3, _ => exact ⟨h.cell 6 rfl, h.cell 7 rfl⟩
theorem kp_small : SmallL KP := (near_small (by decide)).1
instance foreDec (l : List (Int × Int)) (d : Int) (a b : Nat) : Decidable (Fore l d a b) := by unfold Fore; infer_instance
theorem kp0 {o : List Nat} (h : OrdL KP 0 o) : o = [3, 1, 0, 2] := h.uniq (m := KP) (e := 0) ⟨by decide, by decide⟩ rfl fun _ _ _ _ h => h
theorem kp3 {o : List Nat} (h : OrdL KP 3 o) : o = [1, 3, 2, 0] := h.uniq (m := KP) (e := 3) ⟨by decide, by decide⟩ rfl fun _ _ _ _ h => h
set_option maxHeartbeats 8000000 in
set_option maxRecDepth 100000 in
theorem known10_any (w : World) : Calls Try.prog 6 #[] w fun e w' => e = .returned (.bool true) ∧ Below w.heap.size w w' := by
  have HB := Lib.hid (Below.refl w.heap.size w)
  obtain ⟨x1, hx1⟩ := named (w.alloc (.cells kpC 30))
  have hb : Below w.heap.size w x1 := by rw [hx1]; exact below_alloc1 _
  obtain ⟨g1, hg1⟩ : ∃ g, w.heap.size = g := ⟨_, rfl⟩
  have kb : Blk x1 g1 kpC 30 := by rw [hx1]; exact Blk.new _ _ _ _ hg1
  have HB_ := Lib.hid (bOn6 HB.out hb)
  clear HB
  have HB := HB_
  clear HB_
  have HP := Lib.hid (kp_prs kb)
  have e1 := hx1.symm
  have z1 : Hid (x1.heap.size = w.heap.size + 1) := Lib.hid (by rw [hx1]; simp)
  clear hb kb hx1
  go_enter Try.func6, Try.ntmps6
  go_wp2_with fail
  clear e1 z1
  refine (copies_own HP.out (by decide)).mono ?_
  rintro e w2 ⟨u, rfl, hu, hb⟩
  have HU := Lib.hid (prs_of_owns hu (by decide))
  clear hu
  have HB_ := Lib.hid (bOn6 HB.out hb)
  have HP_ := Lib.hid (HP.out.below hb)
  clear HB HP
  have HB := HB_
  have HP := HP_
  clear HB_ HP_
  clear hb
  obtain ⟨uq, uc, rfl⟩ : ∃ q c, u = .slice q 4 c := HU.out.shape
  go_wp2_with fail
  refine (order_is HU.out kp_small (by decide)).mono ?_
  rintro e w3 ⟨go, o, rfl, ho, hk, -, hb⟩
  obtain rfl := kp0 ho
  have HO := Lib.hid (i64s_of_blk (l := [3, 1, 0, 2]) hk rfl (by decide))
  clear ho hk
  have HB_ := Lib.hid (bOn6 HB.out hb)
  have HP_ := Lib.hid (HP.out.below hb)
  have HU_ := Lib.hid (HU.out.below hb)
  clear HB HP HU
  have HB := HB_
  have HP := HP_
  have HU := HU_
  clear HB_ HP_ HU_
  clear hb
  clear HU
  go_wp2_with fail
  refine (ends_is HO.out (by decide)).mono ?_
  rintro e w4 ⟨q1, c1, q2, c2, rfl, h1, h2, hb⟩
  have HA : Hid (I64s w4 (.slice q1 1 c1) [3]) := Lib.hid h1
  have HE : Hid (I64s w4 (.slice q2 1 c2) [2]) := Lib.hid h2
  clear h1 h2
  have HB_ := Lib.hid (bOn6 HB.out hb)
  have HP_ := Lib.hid (HP.out.below hb)
  have HO_ := Lib.hid (HO.out.below hb)
  clear HB HP HO
  have HB := HB_
  have HP := HP_
  have HO := HO_
  clear HB_ HP_ HO_
  clear hb
  simp only [show endN [(3 : Int), 1, 0, 2].length = 1 from rfl]
  go_wp2_with fail
  obtain ⟨x2, hx2⟩ := named (w4.alloc (.cells #[.int .i64 3, .int .i64 1, .int .i64 0, .int .i64 2] 3))
  have hb : Below w4.heap.size w4 x2 := by rw [hx2]; exact below_alloc1 _
  obtain ⟨g2, hg2⟩ : ∃ g, w4.heap.size = g := ⟨_, rfl⟩
  have kb : Blk x2 g2 #[.int .i64 3, .int .i64 1, .int .i64 0, .int .i64 2] 3 := by rw [hx2]; exact Blk.new _ _ _ _ hg2
  have HB_ := Lib.hid (bOn6 HB.out hb)
  have HP_ := Lib.hid (HP.out.below hb)
  have HO_ := Lib.hid (HO.out.below hb)
  have HA_ := Lib.hid (HA.out.below hb)
  have HE_ := Lib.hid (HE.out.below hb)
  clear HB HP HO HA HE
  have HB := HB_
  have HP := HP_
  have HO := HO_
  have HA := HA_
  have HE := HE_
  clear HB_ HP_ HO_ HA_ HE_
  have HL := Lib.hid (i64s_of_blk (l := [3, 1, 0, 2]) kb rfl (by decide))
  have e2 := hx2.symm
  have z2 : Hid (x2.heap.size = w4.heap.size + 1) := Lib.hid (by rw [hx2]; simp)
  clear hb kb hx2
  rw [e2]
  clear e2
  try rw [show w4.heap.size = g2 from by omega]
  clear z2
  refine (sameints_any _ _ [3, 1, 0, 2] [3, 1, 0, 2] _ HO.out HL.out).mono ?_
  rintro e w5 ⟨rfl, hb⟩
  have HB_ := Lib.hid (bOn6 HB.out hb)
  have HP_ := Lib.hid (HP.out.below hb)
  have HO_ := Lib.hid (HO.out.below hb)
  have HA_ := Lib.hid (HA.out.below hb)
  have HE_ := Lib.hid (HE.out.below hb)
  have HL_ := Lib.hid (HL.out.below hb)
  clear HB HP HO HA HE HL
  have HB := HB_
  have HP := HP_
  have HO := HO_
  have HA := HA_
  have HE := HE_
  have HL := HL_
  clear HB_ HP_ HO_ HA_ HE_ HL_
  clear hb
  clear HL HO
  go_wp2_with fail
  refine (order_is HP.out kp_small (by decide)).mono ?_
  rintro e w6 ⟨go, o, rfl, ho, hk, -, hb⟩
  obtain rfl := kp3 ho
  have HO := Lib.hid (i64s_of_blk (l := [1, 3, 2, 0]) hk rfl (by decide))
  clear ho hk
  have HB_ := Lib.hid (bOn6 HB.out hb)
  have HP_ := Lib.hid (HP.out.below hb)
  have HA_ := Lib.hid (HA.out.below hb)
  have HE_ := Lib.hid (HE.out.below hb)
  clear HB HP HA HE
  have HB := HB_
  have HP := HP_
  have HA := HA_
  have HE := HE_
  clear HB_ HP_ HA_ HE_
  clear hb
  go_wp2_with fail
  obtain ⟨x3, hx3⟩ := named (w6.alloc (.cells #[.int .i64 1, .int .i64 3, .int .i64 2, .int .i64 0] 3))
  have hb : Below w6.heap.size w6 x3 := by rw [hx3]; exact below_alloc1 _
  obtain ⟨g3, hg3⟩ : ∃ g, w6.heap.size = g := ⟨_, rfl⟩
  have kb : Blk x3 g3 #[.int .i64 1, .int .i64 3, .int .i64 2, .int .i64 0] 3 := by rw [hx3]; exact Blk.new _ _ _ _ hg3
  have HB_ := Lib.hid (bOn6 HB.out hb)
  have HP_ := Lib.hid (HP.out.below hb)
  have HA_ := Lib.hid (HA.out.below hb)
  have HE_ := Lib.hid (HE.out.below hb)
  have HO_ := Lib.hid (HO.out.below hb)
  clear HB HP HA HE HO
  have HB := HB_
  have HP := HP_
  have HA := HA_
  have HE := HE_
  have HO := HO_
  clear HB_ HP_ HA_ HE_ HO_
  have HL := Lib.hid (i64s_of_blk (l := [1, 3, 2, 0]) kb rfl (by decide))
  have e3 := hx3.symm
  have z3 : Hid (x3.heap.size = w6.heap.size + 1) := Lib.hid (by rw [hx3]; simp)
  clear hb kb hx3
  rw [e3]
  clear e3
  try rw [show w6.heap.size = g3 from by omega]
  clear z3
  refine (sameints_any _ _ [1, 3, 2, 0] [1, 3, 2, 0] _ HO.out HL.out).mono ?_
  rintro e w7 ⟨rfl, hb⟩
  have HB_ := Lib.hid (bOn6 HB.out hb)
  have HP_ := Lib.hid (HP.out.below hb)
  have HA_ := Lib.hid (HA.out.below hb)
  have HE_ := Lib.hid (HE.out.below hb)
  have HO_ := Lib.hid (HO.out.below hb)
  have HL_ := Lib.hid (HL.out.below hb)
  clear HB HP HA HE HO HL
  have HB := HB_
  have HP := HP_
  have HA := HA_
  have HE := HE_
  have HO := HO_
  have HL := HL_
  clear HB_ HP_ HA_ HE_ HO_ HL_
  clear hb
  clear HL HO
  go_wp2_with fail
  obtain ⟨x4, hx4⟩ := named (w7.alloc (.cells #[.int .i64 3] 3))
  have hb : Below w7.heap.size w7 x4 := by rw [hx4]; exact below_alloc1 _
  obtain ⟨g4, hg4⟩ : ∃ g, w7.heap.size = g := ⟨_, rfl⟩
  have kb : Blk x4 g4 #[.int .i64 3] 3 := by rw [hx4]; exact Blk.new _ _ _ _ hg4
  have HB_ := Lib.hid (bOn6 HB.out hb)
  have HP_ := Lib.hid (HP.out.below hb)
  have HA_ := Lib.hid (HA.out.below hb)
  have HE_ := Lib.hid (HE.out.below hb)
  clear HB HP HA HE
  have HB := HB_
  have HP := HP_
  have HA := HA_
  have HE := HE_
  clear HB_ HP_ HA_ HE_
  have HL := Lib.hid (i64s_of_blk (l := [3]) kb rfl (by decide))
  have e4 := hx4.symm
  have z4 : Hid (x4.heap.size = w7.heap.size + 1) := Lib.hid (by rw [hx4]; simp)
  clear hb kb hx4
  rw [e4]
  clear e4
  try rw [show w7.heap.size = g4 from by omega]
  clear z4
  refine (sameints_any _ _ [3] [3] _ HA.out HL.out).mono ?_
  rintro e w8 ⟨rfl, hb⟩
  have HB_ := Lib.hid (bOn6 HB.out hb)
  have HP_ := Lib.hid (HP.out.below hb)
  have HA_ := Lib.hid (HA.out.below hb)
  have HE_ := Lib.hid (HE.out.below hb)
  have HL_ := Lib.hid (HL.out.below hb)
  clear HB HP HA HE HL
  have HB := HB_
  have HP := HP_
  have HA := HA_
  have HE := HE_
  have HL := HL_
  clear HB_ HP_ HA_ HE_ HL_
  clear hb
  clear HL HA
  go_wp2_with fail
  obtain ⟨x5, hx5⟩ := named (w8.alloc (.cells #[.int .i64 2] 3))
  have hb : Below w8.heap.size w8 x5 := by rw [hx5]; exact below_alloc1 _
  obtain ⟨g5, hg5⟩ : ∃ g, w8.heap.size = g := ⟨_, rfl⟩
  have kb : Blk x5 g5 #[.int .i64 2] 3 := by rw [hx5]; exact Blk.new _ _ _ _ hg5
  have HB_ := Lib.hid (bOn6 HB.out hb)
  have HP_ := Lib.hid (HP.out.below hb)
  have HE_ := Lib.hid (HE.out.below hb)
  clear HB HP HE
  have HB := HB_
  have HP := HP_
  have HE := HE_
  clear HB_ HP_ HE_
  have HL := Lib.hid (i64s_of_blk (l := [2]) kb rfl (by decide))
  have e5 := hx5.symm
  have z5 : Hid (x5.heap.size = w8.heap.size + 1) := Lib.hid (by rw [hx5]; simp)
  clear hb kb hx5
  rw [e5]
  clear e5
  try rw [show w8.heap.size = g5 from by omega]
  clear z5
  refine (sameints_any _ _ [2] [2] _ HE.out HL.out).mono ?_
  rintro e w9 ⟨rfl, hb⟩
  have HB_ := Lib.hid (bOn6 HB.out hb)
  have HP_ := Lib.hid (HP.out.below hb)
  have HE_ := Lib.hid (HE.out.below hb)
  have HL_ := Lib.hid (HL.out.below hb)
  clear HB HP HE HL
  have HB := HB_
  have HP := HP_
  have HE := HE_
  have HL := HL_
  clear HB_ HP_ HE_ HL_
  clear hb
  clear HL HE
  go_wp2_with fail
  obtain ⟨x6, hx6⟩ := named (w9.alloc (.cells #[.int .i64 7, .int .i64 8, .int .i64 9] 3))
  have hb : Below w9.heap.size w9 x6 := by rw [hx6]; exact below_alloc1 _
  obtain ⟨g6, hg6⟩ : ∃ g, w9.heap.size = g := ⟨_, rfl⟩
  have kb : Blk x6 g6 #[.int .i64 7, .int .i64 8, .int .i64 9] 3 := by rw [hx6]; exact Blk.new _ _ _ _ hg6
  have HB_ := Lib.hid (bOn6 HB.out hb)
  have HP_ := Lib.hid (HP.out.below hb)
  clear HB HP
  have HB := HB_
  have HP := HP_
  clear HB_ HP_
  have HL := Lib.hid (i64s_of_blk (l := [7, 8, 9]) kb rfl (by decide))
  have e6 := hx6.symm
  have z6 : Hid (x6.heap.size = w9.heap.size + 1) := Lib.hid (by rw [hx6]; simp)
  clear hb kb hx6
  rw [e6]
  clear e6
  try rw [show w9.heap.size = g6 from by omega]
  clear z6
  refine (half_is HL.out (by decide) (k := 2) (by decide)).mono ?_
  rintro e w10 ⟨q3, c3, rfl, h1, hb⟩
  have HA : Hid (I64s w10 (.slice q3 2 c3) [7, 8]) := Lib.hid h1
  clear h1
  have HB_ := Lib.hid (bOn6 HB.out hb)
  have HP_ := Lib.hid (HP.out.below hb)
  have HL_ := Lib.hid (HL.out.below hb)
  clear HB HP HL
  have HB := HB_
  have HP := HP_
  have HL := HL_
  clear HB_ HP_ HL_
  clear hb
  clear HL
  go_wp2_with fail
  obtain ⟨x7, hx7⟩ := named (w10.alloc (.cells #[.int .i64 7, .int .i64 8] 3))
  have hb : Below w10.heap.size w10 x7 := by rw [hx7]; exact below_alloc1 _
  obtain ⟨g7, hg7⟩ : ∃ g, w10.heap.size = g := ⟨_, rfl⟩
  have kb : Blk x7 g7 #[.int .i64 7, .int .i64 8] 3 := by rw [hx7]; exact Blk.new _ _ _ _ hg7
  have HB_ := Lib.hid (bOn6 HB.out hb)
  have HP_ := Lib.hid (HP.out.below hb)
  have HA_ := Lib.hid (HA.out.below hb)
  clear HB HP HA
  have HB := HB_
  have HP := HP_
  have HA := HA_
  clear HB_ HP_ HA_
  have HL := Lib.hid (i64s_of_blk (l := [7, 8]) kb rfl (by decide))
  have e7 := hx7.symm
  have z7 : Hid (x7.heap.size = w10.heap.size + 1) := Lib.hid (by rw [hx7]; simp)
  clear hb kb hx7
  rw [e7]
  clear e7
  try rw [show w10.heap.size = g7 from by omega]
  clear z7
  refine (sameints_any _ _ [7, 8] [7, 8] _ HA.out HL.out).mono ?_
  rintro e w11 ⟨rfl, hb⟩
  have HB_ := Lib.hid (bOn6 HB.out hb)
  have HP_ := Lib.hid (HP.out.below hb)
  have HA_ := Lib.hid (HA.out.below hb)
  have HL_ := Lib.hid (HL.out.below hb)
  clear HB HP HA HL
  have HB := HB_
  have HP := HP_
  have HA := HA_
  have HL := HL_
  clear HB_ HP_ HA_ HL_
  clear hb
  clear HL HA
  go_wp2_with fail
  refine (key_is 5 7 2 _ ⟨by decide, by decide⟩ (r := 12) (by decide)).mono ?_
  rintro e w12 ⟨rfl, hg⟩
  have hb := hg.below
  clear hg
  have HB_ := Lib.hid (bOn6 HB.out hb)
  have HP_ := Lib.hid (HP.out.below hb)
  clear HB HP
  have HB := HB_
  have HP := HP_
  clear HB_ HP_
  clear hb
  go_wp2_with fail
  obtain ⟨x8, hx8⟩ := named (w12.alloc (.cells #[.bool true, .bool false] 4))
  have hb : Below w12.heap.size w12 x8 := by rw [hx8]; exact below_alloc1 _
  obtain ⟨g8, hg8⟩ : ∃ g, w12.heap.size = g := ⟨_, rfl⟩
  have kb : Blk x8 g8 #[.bool true, .bool false] 4 := by rw [hx8]; exact Blk.new _ _ _ _ hg8
  have HB_ := Lib.hid (bOn6 HB.out hb)
  have HP_ := Lib.hid (HP.out.below hb)
  clear HB HP
  have HB := HB_
  have HP := HP_
  clear HB_ HP_
  have HL := Lib.hid (bools_of_blk (l := [true, false]) kb rfl (by decide))
  have e8 := hx8.symm
  have z8 : Hid (x8.heap.size = w12.heap.size + 1) := Lib.hid (by rw [hx8]; simp)
  clear hb kb hx8
  rw [e8]
  clear e8
  try rw [show w12.heap.size = g8 from by omega]
  clear z8
  refine (fair_is HL.out (by decide) (r := true) (by decide)).mono ?_
  rintro e w13 ⟨rfl, rfl⟩
  clear HL
  go_wp2_with fail
  obtain ⟨x9, hx9⟩ := named (x8.alloc (.cells #[.bool true] 4))
  have hb : Below x8.heap.size x8 x9 := by rw [hx9]; exact below_alloc1 _
  obtain ⟨g9, hg9⟩ : ∃ g, x8.heap.size = g := ⟨_, rfl⟩
  have kb : Blk x9 g9 #[.bool true] 4 := by rw [hx9]; exact Blk.new _ _ _ _ hg9
  have HB_ := Lib.hid (bOn6 HB.out hb)
  have HP_ := Lib.hid (HP.out.below hb)
  clear HB HP
  have HB := HB_
  have HP := HP_
  clear HB_ HP_
  have HL := Lib.hid (bools_of_blk (l := [true]) kb rfl (by decide))
  have e9 := hx9.symm
  have z9 : Hid (x9.heap.size = x8.heap.size + 1) := Lib.hid (by rw [hx9]; simp)
  clear hb kb hx9
  rw [e9]
  clear e9
  try rw [show x8.heap.size = g9 from by omega]
  clear z9
  refine (fair_is HL.out (by decide) (r := false) (by decide)).mono ?_
  rintro e w14 ⟨rfl, rfl⟩
  clear HL
  go_wp2_with fail
  obtain ⟨x10, hx10⟩ := named (x9.alloc (.cells #[.bool true, .bool true, .bool true, .bool true, .bool false] 4))
  have hb : Below x9.heap.size x9 x10 := by rw [hx10]; exact below_alloc1 _
  obtain ⟨g10, hg10⟩ : ∃ g, x9.heap.size = g := ⟨_, rfl⟩
  have kb : Blk x10 g10 #[.bool true, .bool true, .bool true, .bool true, .bool false] 4 := by rw [hx10]; exact Blk.new _ _ _ _ hg10
  have HB_ := Lib.hid (bOn6 HB.out hb)
  have HP_ := Lib.hid (HP.out.below hb)
  clear HB HP
  have HB := HB_
  have HP := HP_
  clear HB_ HP_
  have HL := Lib.hid (bools_of_blk (l := [true, true, true, true, false]) kb rfl (by decide))
  have e10 := hx10.symm
  have z10 : Hid (x10.heap.size = x9.heap.size + 1) := Lib.hid (by rw [hx10]; simp)
  clear hb kb hx10
  rw [e10]
  clear e10
  try rw [show x9.heap.size = g10 from by omega]
  clear z10
  refine (fair_is HL.out (by decide) (r := false) (by decide)).mono ?_
  rintro e w15 ⟨rfl, rfl⟩
  clear HL
  go_wp2_with fail
  go_ret
  exact ⟨rfl, HB.out⟩
end Go.Proofs.Ytleheaffipokfaa
