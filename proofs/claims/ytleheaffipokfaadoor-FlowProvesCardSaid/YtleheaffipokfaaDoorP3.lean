/-
  Tells, at a Fault and a Wrong that were just laid.
-/
import Derived.Test.YtleheaffipokfaaDoorAtW
import Derived.Test.YtleheaffipokfaaDoorT1
import Derived.Test.YtleheaffipokfaaDoorFlKm
namespace Go.Proofs.YtleheaffipokfaaDoor
open Go.RowKit

/-- Tells, at a Fault and a Wrong that were just laid. -/
theorem tells_laid (w : World) (g b : Nat) (p : ByteArray) (n a : Int) (hgs : w.heap.size + 1 = g) (hg : ErrT w) (c0 : w.cell? ⟨b, 0, none⟩ = some (.string p)) (c1 : w.cell? ⟨b, 1, none⟩ = some (.int .i64 n)) (c2 : w.cell? ⟨b, 2, none⟩ = some (.iface 58 (.int .i64 a))) (ha : ¬ a = 0) :
    Calls Tryd.prog 11 #[.iface 59 (.pointer (some ⟨b, 0, none⟩)), .agg #[.slice (some ⟨g, 0, none⟩) 1 1, .int .i64 a]] ((w.alloc (.cells #[.slice (some ⟨g, 0, none⟩) 1 1, .int .i64 a] 42)).alloc (.cells #[.string p, .int .i64 n] 65)) fun e w' => e = .returned (.bool true) ∧ Below w.heap.size w w' := by
  subst hgs
  have hb := atWorld_below p n a w
  have hE : ErrV w (.iface 59 (.pointer (some ⟨b, 0, none⟩))) [(p, n)] a := ⟨b, _, rfl, c0, c1, c2, rfl⟩
  exact (tells_any _ _ [(p, n)] a (atWorld p n a w) (hg.below hg.lt hb) (hE.below hb) (atWorld_wrong p n a w) (by simp) (by simp) ha).mono fun e w' ⟨h, h'⟩ => ⟨h, hb.trans (h'.mono (by rw [atWorld_size]; omega))⟩

end Go.Proofs.YtleheaffipokfaaDoor

/-
  The laws' own beginning: a square with one edge across.
-/
namespace Go.Proofs.YtleheaffipokfaaDoor
open Go.RowKit

set_option maxHeartbeats 8000000 in
set_option maxRecDepth 100000 in
theorem known9_any (w : World) (hg : ErrT w) : Calls Tryd.prog 4 #[] w fun e w' => e = .returned (.bool true) ∧ Below w.heap.size w w' := by
  have HG := Lib.hid hg
  have HB := Lib.hid (Below.refl w.heap.size w)
  clear hg
  obtain ⟨x1, hx1⟩ := named (w.alloc (.cells keC 33))
  have hb : Below w.heap.size w x1 := by rw [hx1]; exact below_alloc1 _
  obtain ⟨g1, hg1⟩ : ∃ g, w.heap.size = g := ⟨_, rfl⟩
  have kb : Blk x1 g1 keC 33 := by rw [hx1]; exact Blk.new _ _ _ _ hg1
  have HB_ := Lib.hid (bOn6 HB.out hb)
  clear HB
  have HB := HB_
  clear HB_
  have HP := Lib.hid (ke_prs kb)
  have e1 := hx1.symm
  have z1 : Hid (x1.heap.size = w.heap.size + 1) := Lib.hid (by rw [hx1]; simp)
  clear hb kb hx1
  go_enter Tryd.func4, Tryd.ntmps4
  go_wp2_with fail
  clear e1 z1
  refine (copies_is HP.out (by decide)).mono ?_
  rintro e w2 ⟨u, rfl, hu, hb⟩
  have HB_ := Lib.hid (bOn6 HB.out hb)
  have HP_ := Lib.hid (HP.out.below hb)
  clear HB HP
  have HB := HB_
  have HP := HP_
  clear HB_ HP_
  clear hb
  have HU := Lib.hid (hu)
  clear hu
  obtain ⟨x2, hx2⟩ := named (w2.alloc (.cells #[.int .i64 0] 3))
  have hb : Below w2.heap.size w2 x2 := by rw [hx2]; exact below_alloc1 _
  obtain ⟨g2, hg2⟩ : ∃ g, w2.heap.size = g := ⟨_, rfl⟩
  have kb : Blk x2 g2 #[.int .i64 0] 3 := by rw [hx2]; exact Blk.new _ _ _ _ hg2
  have HB_ := Lib.hid (bOn6 HB.out hb)
  have HP_ := Lib.hid (HP.out.below hb)
  have HU_ := Lib.hid (HU.out.below hb)
  clear HB HP HU
  have HB := HB_
  have HP := HP_
  have HU := HU_
  clear HB_ HP_ HU_
  have HS := Lib.hid (one_i64s (x := 0) kb)
  have e2 := hx2.symm
  have z2 : Hid (x2.heap.size = w2.heap.size + 1) := Lib.hid (by rw [hx2]; simp)
  clear hb kb hx2
  obtain ⟨x3, hx3⟩ := named (x2.alloc (.cells #[.int .i64 3] 3))
  have hb : Below x2.heap.size x2 x3 := by rw [hx3]; exact below_alloc1 _
  obtain ⟨g3, hg3⟩ : ∃ g, x2.heap.size = g := ⟨_, rfl⟩
  have kb : Blk x3 g3 #[.int .i64 3] 3 := by rw [hx3]; exact Blk.new _ _ _ _ hg3
  have HB_ := Lib.hid (bOn6 HB.out hb)
  have HP_ := Lib.hid (HP.out.below hb)
  have HU_ := Lib.hid (HU.out.below hb)
  have HS_ := Lib.hid (HS.out.below hb)
  clear HB HP HU HS
  have HB := HB_
  have HP := HP_
  have HU := HU_
  have HS := HS_
  clear HB_ HP_ HU_ HS_
  have HD := Lib.hid (one_i64s (x := 3) kb)
  have e3 := hx3.symm
  have z3 : Hid (x3.heap.size = x2.heap.size + 1) := Lib.hid (by rw [hx3]; simp)
  clear hb kb hx3
  go_wp2_with fail
  clear e2 e3 z2 z3
  refine (max_is (N := 4) (E := KE) HU.out HS.out HD.out (by decide) (by decide) (by decide) (by decide) ke_ok ke_in (by decide) (by decide)).mono ?_
  rintro e w5 ⟨hb, ⟨-, V, f, near, far, fv, nv, gv, rfl, hf, hn, hg, hq⟩ | ⟨htw, -⟩⟩
  case inr => exact absurd htw ke_once
  obtain ⟨rfl, rfl, rfl⟩ := ke_told hq
  have HQ := Lib.hid hq
  obtain ⟨fq, fc, rfl⟩ := hf.shape
  obtain ⟨nq, nc, rfl⟩ := hn.shape
  obtain ⟨gq, gc, rfl⟩ := hg.shape
  have HFL : Hid (f.length = 6) := Lib.hid hq.flow.len
  obtain ⟨L, hL⟩ : ∃ L, f.length = L := ⟨_, rfl⟩
  rw [hL]
  rw [hL] at hf HFL
  have HLE := Lib.hid hL
  clear hL
  clear hq
  have HB_ := Lib.hid (bOn6 HB.out hb)
  have HP_ := Lib.hid (HP.out.below hb)
  have HU_ := Lib.hid (HU.out.below hb)
  have HS_ := Lib.hid (HS.out.below hb)
  have HD_ := Lib.hid (HD.out.below hb)
  clear HB HP HU HS HD
  have HB := HB_
  have HP := HP_
  have HU := HU_
  have HS := HS_
  have HD := HD_
  clear HB_ HP_ HU_ HS_ HD_
  clear hb
  have HF := Lib.hid hf
  have HN := Lib.hid (show Bools w5 (.slice nq 4 nc) [true, false, false, false] from hn)
  have HGV := Lib.hid (show Bools w5 (.slice gq 4 gc) [true, true, true, false] from hg)
  clear hf hn hg
  clear HU HS HD
  obtain ⟨x4, hx4⟩ := named (w5.alloc (.cells #[.int .i64 2, .slice fq L fc, .slice nq 4 nc, .slice gq 4 gc] 30))
  have hb : Below w5.heap.size w5 x4 := by rw [hx4]; exact below_alloc1 _
  obtain ⟨g4, hg4⟩ : ∃ g, w5.heap.size = g := ⟨_, rfl⟩
  have kb : Blk x4 g4 #[.int .i64 2, .slice fq L fc, .slice nq 4 nc, .slice gq 4 gc] 30 := by rw [hx4]; exact Blk.new _ _ _ _ hg4
  have HB_ := Lib.hid (bOn6 HB.out hb)
  have HP_ := Lib.hid (HP.out.below hb)
  have HF_ := Lib.hid (HF.out.below hb)
  have HN_ := Lib.hid (HN.out.below hb)
  have HGV_ := Lib.hid (HGV.out.below hb)
  clear HB HP HF HN HGV
  have HB := HB_
  have HP := HP_
  have HF := HF_
  have HN := HN_
  have HGV := HGV_
  clear HB_ HP_ HF_ HN_ HGV_
  have KR := Lib.hid (kb)
  have e4 := hx4.symm
  have z4 : Hid (x4.heap.size = w5.heap.size + 1) := Lib.hid (by rw [hx4]; simp)
  clear hb kb hx4
  obtain ⟨x5, hx5⟩ := named (x4.alloc (.cells #[.int .i64 0] 3))
  have hb : Below x4.heap.size x4 x5 := by rw [hx5]; exact below_alloc1 _
  obtain ⟨g5, hg5⟩ : ∃ g, x4.heap.size = g := ⟨_, rfl⟩
  have kb : Blk x5 g5 #[.int .i64 0] 3 := by rw [hx5]; exact Blk.new _ _ _ _ hg5
  have HB_ := Lib.hid (bOn6 HB.out hb)
  have HP_ := Lib.hid (HP.out.below hb)
  have HF_ := Lib.hid (HF.out.below hb)
  have HN_ := Lib.hid (HN.out.below hb)
  have HGV_ := Lib.hid (HGV.out.below hb)
  have KR_ := Lib.hid (KR.out.keep hb)
  clear HB HP HF HN HGV KR
  have HB := HB_
  have HP := HP_
  have HF := HF_
  have HN := HN_
  have HGV := HGV_
  have KR := KR_
  clear HB_ HP_ HF_ HN_ HGV_ KR_
  have HS := Lib.hid (one_i64s (x := 0) kb)
  have e5 := hx5.symm
  have z5 : Hid (x5.heap.size = x4.heap.size + 1) := Lib.hid (by rw [hx5]; simp)
  clear hb kb hx5
  obtain ⟨x6, hx6⟩ := named (x5.alloc (.cells #[.int .i64 0] 3))
  have hb : Below x5.heap.size x5 x6 := by rw [hx6]; exact below_alloc1 _
  obtain ⟨g6, hg6⟩ : ∃ g, x5.heap.size = g := ⟨_, rfl⟩
  have kb : Blk x6 g6 #[.int .i64 0] 3 := by rw [hx6]; exact Blk.new _ _ _ _ hg6
  have HB_ := Lib.hid (bOn6 HB.out hb)
  have HP_ := Lib.hid (HP.out.below hb)
  have HF_ := Lib.hid (HF.out.below hb)
  have HN_ := Lib.hid (HN.out.below hb)
  have HGV_ := Lib.hid (HGV.out.below hb)
  have KR_ := Lib.hid (KR.out.keep hb)
  have HS_ := Lib.hid (HS.out.below hb)
  clear HB HP HF HN HGV KR HS
  have HB := HB_
  have HP := HP_
  have HF := HF_
  have HN := HN_
  have HGV := HGV_
  have KR := KR_
  have HS := HS_
  clear HB_ HP_ HF_ HN_ HGV_ KR_ HS_
  have HD := Lib.hid (one_i64s (x := 0) kb)
  have e6 := hx6.symm
  have z6 : Hid (x6.heap.size = x5.heap.size + 1) := Lib.hid (by rw [hx6]; simp)
  clear hb kb hx6
  go_wp2_with fail
  clear e4 e5 e6 z4 z5 z6
  refine (max_is (N := 4) (E := KE) HP.out HS.out HD.out (by decide) (by decide) (by decide) (by decide) ke_ok2 ke_in (by decide) (by decide)).mono ?_
  rintro e w9 ⟨hb, ⟨htw, -⟩ | ⟨-, gf, rfl, hfa⟩⟩
  case inl => exact absurd ke_twice htw
  have HB_ := Lib.hid (bOn6 HB.out hb)
  have HP_ := Lib.hid (HP.out.below hb)
  have HF_ := Lib.hid (HF.out.below hb)
  have HN_ := Lib.hid (HN.out.below hb)
  have HGV_ := Lib.hid (HGV.out.below hb)
  have KR_ := Lib.hid (KR.out.keep hb)
  have HS_ := Lib.hid (HS.out.below hb)
  have HD_ := Lib.hid (HD.out.below hb)
  clear HB HP HF HN HGV KR HS HD
  have HB := HB_
  have HP := HP_
  have HF := HF_
  have HN := HN_
  have HGV := HGV_
  have KR := KR_
  have HS := HS_
  have HD := HD_
  clear HB_ HP_ HF_ HN_ HGV_ KR_ HS_ HD_
  clear hb
  have HFA := Lib.hid (hfa)
  clear hfa
  clear HS HD
  obtain ⟨c0, c1, c2, c3, -⟩ := KR.out.o4
  have cl := KR.out.lt
  go_wp2_with fail
  clear c0 c1 c2 c3 cl
  obtain ⟨x7, hx7⟩ := named (w9.alloc (.cells #[.int .i64 0, .slice none 0 0, .slice none 0 0, .slice none 0 0] 30))
  have hb : Below w9.heap.size w9 x7 := by rw [hx7]; exact below_alloc1 _
  obtain ⟨g7, hg7⟩ : ∃ g, w9.heap.size = g := ⟨_, rfl⟩
  have kb : Blk x7 g7 #[.int .i64 0, .slice none 0 0, .slice none 0 0, .slice none 0 0] 30 := by rw [hx7]; exact Blk.new _ _ _ _ hg7
  have HB_ := Lib.hid (bOn6 HB.out hb)
  have HP_ := Lib.hid (HP.out.below hb)
  have HF_ := Lib.hid (HF.out.below hb)
  have HN_ := Lib.hid (HN.out.below hb)
  have HGV_ := Lib.hid (HGV.out.below hb)
  have KR_ := Lib.hid (KR.out.keep hb)
  have HFA_ := Lib.hid (HFA.out.keep hb)
  clear HB HP HF HN HGV KR HFA
  have HB := HB_
  have HP := HP_
  have HF := HF_
  have HN := HN_
  have HGV := HGV_
  have KR := KR_
  have HFA := HFA_
  clear HB_ HP_ HF_ HN_ HGV_ KR_ HFA_
  have e7 := hx7.symm
  have z7 : Hid (x7.heap.size = w9.heap.size + 1) := Lib.hid (by rw [hx7]; simp)
  clear hb kb hx7
  rw [e7]
  clear e7
  obtain ⟨x8, hx8⟩ := named (x7.alloc (.cells #[.bool true, .bool false, .bool false, .bool false] 4))
  have hb : Below x7.heap.size x7 x8 := by rw [hx8]; exact below_alloc1 _
  obtain ⟨g8, hg8⟩ : ∃ g, x7.heap.size = g := ⟨_, rfl⟩
  have kb : Blk x8 g8 #[.bool true, .bool false, .bool false, .bool false] 4 := by rw [hx8]; exact Blk.new _ _ _ _ hg8
  have HB_ := Lib.hid (bOn6 HB.out hb)
  have HP_ := Lib.hid (HP.out.below hb)
  have HF_ := Lib.hid (HF.out.below hb)
  have HN_ := Lib.hid (HN.out.below hb)
  have HGV_ := Lib.hid (HGV.out.below hb)
  have KR_ := Lib.hid (KR.out.keep hb)
  have HFA_ := Lib.hid (HFA.out.keep hb)
  clear HB HP HF HN HGV KR HFA
  have HB := HB_
  have HP := HP_
  have HF := HF_
  have HN := HN_
  have HGV := HGV_
  have KR := KR_
  have HFA := HFA_
  clear HB_ HP_ HF_ HN_ HGV_ KR_ HFA_
  have HL := Lib.hid (four_bools kb)
  have e8 := hx8.symm
  have z8 : Hid (x8.heap.size = x7.heap.size + 1) := Lib.hid (by rw [hx8]; simp)
  clear hb kb hx8
  rw [e8]
  clear e8
  try rw [show w9.heap.size + 1 = g8 from by have := z7.out; omega]
  try rw [show w9.heap.size = g7 from by omega]
  clear z7 z8
  refine (sameB_is HN.out HL.out (b := true) (by decide)).mono ?_
  rintro e w11 ⟨rfl, hb⟩
  have HB_ := Lib.hid (bOn6 HB.out hb)
  have HP_ := Lib.hid (HP.out.below hb)
  have HF_ := Lib.hid (HF.out.below hb)
  have HN_ := Lib.hid (HN.out.below hb)
  have HGV_ := Lib.hid (HGV.out.below hb)
  have KR_ := Lib.hid (KR.out.keep hb)
  have HFA_ := Lib.hid (HFA.out.keep hb)
  have HL_ := Lib.hid (HL.out.below hb)
  clear HB HP HF HN HGV KR HFA HL
  have HB := HB_
  have HP := HP_
  have HF := HF_
  have HN := HN_
  have HGV := HGV_
  have KR := KR_
  have HFA := HFA_
  have HL := HL_
  clear HB_ HP_ HF_ HN_ HGV_ KR_ HFA_ HL_
  clear hb
  clear HL
  obtain ⟨c0, c1, c2, c3, -⟩ := KR.out.o4
  have cl := KR.out.lt
  go_wp2_with fail
  clear c0 c1 c2 c3 cl
  obtain ⟨x9, hx9⟩ := named (w11.alloc (.cells #[.bool true, .bool true, .bool true, .bool false] 4))
  have hb : Below w11.heap.size w11 x9 := by rw [hx9]; exact below_alloc1 _
  obtain ⟨g9, hg9⟩ : ∃ g, w11.heap.size = g := ⟨_, rfl⟩
  have kb : Blk x9 g9 #[.bool true, .bool true, .bool true, .bool false] 4 := by rw [hx9]; exact Blk.new _ _ _ _ hg9
  have HB_ := Lib.hid (bOn6 HB.out hb)
  have HP_ := Lib.hid (HP.out.below hb)
  have HF_ := Lib.hid (HF.out.below hb)
  have HN_ := Lib.hid (HN.out.below hb)
  have HGV_ := Lib.hid (HGV.out.below hb)
  have KR_ := Lib.hid (KR.out.keep hb)
  have HFA_ := Lib.hid (HFA.out.keep hb)
  clear HB HP HF HN HGV KR HFA
  have HB := HB_
  have HP := HP_
  have HF := HF_
  have HN := HN_
  have HGV := HGV_
  have KR := KR_
  have HFA := HFA_
  clear HB_ HP_ HF_ HN_ HGV_ KR_ HFA_
  have HL := Lib.hid (four_bools kb)
  have e9 := hx9.symm
  have z9 : Hid (x9.heap.size = w11.heap.size + 1) := Lib.hid (by rw [hx9]; simp)
  clear hb kb hx9
  rw [e9]
  clear e9
  try rw [show w11.heap.size = g9 from by omega]
  clear z9
  refine (sameB_is HGV.out HL.out (b := true) (by decide)).mono ?_
  rintro e w12 ⟨rfl, hb⟩
  have HB_ := Lib.hid (bOn6 HB.out hb)
  have HP_ := Lib.hid (HP.out.below hb)
  have HF_ := Lib.hid (HF.out.below hb)
  have HN_ := Lib.hid (HN.out.below hb)
  have HGV_ := Lib.hid (HGV.out.below hb)
  have KR_ := Lib.hid (KR.out.keep hb)
  have HFA_ := Lib.hid (HFA.out.keep hb)
  have HL_ := Lib.hid (HL.out.below hb)
  clear HB HP HF HN HGV KR HFA HL
  have HB := HB_
  have HP := HP_
  have HF := HF_
  have HN := HN_
  have HGV := HGV_
  have KR := KR_
  have HFA := HFA_
  have HL := HL_
  clear HB_ HP_ HF_ HN_ HGV_ KR_ HFA_ HL_
  clear hb
  clear HL
  obtain ⟨c0, c1, c2, c3, -⟩ := KR.out.o4
  have cl := KR.out.lt
  go_wp2_with fail
  clear c0 c1 c2 c3 cl
  obtain ⟨x10, hx10⟩ := named (w12.alloc (.cells #[.int .i64 0] 3))
  have hb : Below w12.heap.size w12 x10 := by rw [hx10]; exact below_alloc1 _
  obtain ⟨g10, hg10⟩ : ∃ g, w12.heap.size = g := ⟨_, rfl⟩
  have kb : Blk x10 g10 #[.int .i64 0] 3 := by rw [hx10]; exact Blk.new _ _ _ _ hg10
  have HB_ := Lib.hid (bOn6 HB.out hb)
  have HP_ := Lib.hid (HP.out.below hb)
  have HF_ := Lib.hid (HF.out.below hb)
  have HN_ := Lib.hid (HN.out.below hb)
  have HGV_ := Lib.hid (HGV.out.below hb)
  have KR_ := Lib.hid (KR.out.keep hb)
  have HFA_ := Lib.hid (HFA.out.keep hb)
  clear HB HP HF HN HGV KR HFA
  have HB := HB_
  have HP := HP_
  have HF := HF_
  have HN := HN_
  have HGV := HGV_
  have KR := KR_
  have HFA := HFA_
  clear HB_ HP_ HF_ HN_ HGV_ KR_ HFA_
  have HS := Lib.hid (one_i64s (x := 0) kb)
  have e10 := hx10.symm
  have z10 : Hid (x10.heap.size = w12.heap.size + 1) := Lib.hid (by rw [hx10]; simp)
  clear hb kb hx10
  rw [e10]
  clear e10
  obtain ⟨x11, hx11⟩ := named (x10.alloc (.cells #[.int .i64 3] 3))
  have hb : Below x10.heap.size x10 x11 := by rw [hx11]; exact below_alloc1 _
  obtain ⟨g11, hg11⟩ : ∃ g, x10.heap.size = g := ⟨_, rfl⟩
  have kb : Blk x11 g11 #[.int .i64 3] 3 := by rw [hx11]; exact Blk.new _ _ _ _ hg11
  have HB_ := Lib.hid (bOn6 HB.out hb)
  have HP_ := Lib.hid (HP.out.below hb)
  have HF_ := Lib.hid (HF.out.below hb)
  have HN_ := Lib.hid (HN.out.below hb)
  have HGV_ := Lib.hid (HGV.out.below hb)
  have KR_ := Lib.hid (KR.out.keep hb)
  have HFA_ := Lib.hid (HFA.out.keep hb)
  have HS_ := Lib.hid (HS.out.below hb)
  clear HB HP HF HN HGV KR HFA HS
  have HB := HB_
  have HP := HP_
  have HF := HF_
  have HN := HN_
  have HGV := HGV_
  have KR := KR_
  have HFA := HFA_
  have HS := HS_
  clear HB_ HP_ HF_ HN_ HGV_ KR_ HFA_ HS_
  have HD := Lib.hid (one_i64s (x := 3) kb)
  have e11 := hx11.symm
  have z11 : Hid (x11.heap.size = x10.heap.size + 1) := Lib.hid (by rw [hx11]; simp)
  clear hb kb hx11
  rw [e11]
  clear e11
  try rw [show w12.heap.size + 1 = g11 from by have := z10.out; omega]
  try rw [show w12.heap.size = g10 from by omega]
  clear z10 z11
  refine (proves_is (n := ((4 : Nat) : Int)) HP.out HS.out HD.out HF.out HN.out HGV.out (by decide) (by decide) (by decide) (by decide)).mono ?_
  rintro e w13 ⟨b, rfl, hbb, hb⟩
  obtain rfl : b = true := hbb.2 ((prvP_iff ke_ok ke_once).2 HQ.out)
  clear hbb
  have HB_ := Lib.hid (bOn6 HB.out hb)
  have HP_ := Lib.hid (HP.out.below hb)
  have HF_ := Lib.hid (HF.out.below hb)
  have HN_ := Lib.hid (HN.out.below hb)
  have HGV_ := Lib.hid (HGV.out.below hb)
  have KR_ := Lib.hid (KR.out.keep hb)
  have HFA_ := Lib.hid (HFA.out.keep hb)
  have HS_ := Lib.hid (HS.out.below hb)
  have HD_ := Lib.hid (HD.out.below hb)
  clear HB HP HF HN HGV KR HFA HS HD
  have HB := HB_
  have HP := HP_
  have HF := HF_
  have HN := HN_
  have HGV := HGV_
  have KR := KR_
  have HFA := HFA_
  have HS := HS_
  have HD := HD_
  clear HB_ HP_ HF_ HN_ HGV_ KR_ HFA_ HS_ HD_
  clear hb
  clear HS HD
  go_wp2_with fail
  refine (at_any _ _ _ _).mono ?_
  rintro e w14 ⟨rfl, rfl⟩
  go_wp2_with fail
  refine (tells_laid w13 _ gf _ _ _ rfl (HG.out.below HG.out.lt HB.out) HFA.out.o3.1 HFA.out.o3.2.1 HFA.out.o3.2.2.1 (by decide)).mono ?_
  rintro e w15 ⟨rfl, hb⟩
  have HB_ := Lib.hid (bOn6 HB.out hb)
  have HP_ := Lib.hid (HP.out.below hb)
  have HF_ := Lib.hid (HF.out.below hb)
  have HN_ := Lib.hid (HN.out.below hb)
  have HGV_ := Lib.hid (HGV.out.below hb)
  have KR_ := Lib.hid (KR.out.keep hb)
  have HFA_ := Lib.hid (HFA.out.keep hb)
  clear HB HP HF HN HGV KR HFA
  have HB := HB_
  have HP := HP_
  have HF := HF_
  have HN := HN_
  have HGV := HGV_
  have KR := KR_
  have HFA := HFA_
  clear HB_ HP_ HF_ HN_ HGV_ KR_ HFA_
  clear hb
  go_wp2_with fail
  obtain ⟨x12, hx12⟩ := named (w15.alloc (.cells #[.int .i64 0] 3))
  have hb : Below w15.heap.size w15 x12 := by rw [hx12]; exact below_alloc1 _
  obtain ⟨g12, hg12⟩ : ∃ g, w15.heap.size = g := ⟨_, rfl⟩
  have kb : Blk x12 g12 #[.int .i64 0] 3 := by rw [hx12]; exact Blk.new _ _ _ _ hg12
  have HB_ := Lib.hid (bOn6 HB.out hb)
  have HP_ := Lib.hid (HP.out.below hb)
  have HF_ := Lib.hid (HF.out.below hb)
  have HN_ := Lib.hid (HN.out.below hb)
  have HGV_ := Lib.hid (HGV.out.below hb)
  have KR_ := Lib.hid (KR.out.keep hb)
  have HFA_ := Lib.hid (HFA.out.keep hb)
  clear HB HP HF HN HGV KR HFA
  have HB := HB_
  have HP := HP_
  have HF := HF_
  have HN := HN_
  have HGV := HGV_
  have KR := KR_
  have HFA := HFA_
  clear HB_ HP_ HF_ HN_ HGV_ KR_ HFA_
  have HS := Lib.hid (one_i64s (x := 0) kb)
  have e12 := hx12.symm
  have z12 : Hid (x12.heap.size = w15.heap.size + 1) := Lib.hid (by rw [hx12]; simp)
  clear hb kb hx12
  rw [e12]
  clear e12
  obtain ⟨x13, hx13⟩ := named (x12.alloc (.cells #[.int .i64 3] 3))
  have hb : Below x12.heap.size x12 x13 := by rw [hx13]; exact below_alloc1 _
  obtain ⟨g13, hg13⟩ : ∃ g, x12.heap.size = g := ⟨_, rfl⟩
  have kb : Blk x13 g13 #[.int .i64 3] 3 := by rw [hx13]; exact Blk.new _ _ _ _ hg13
  have HB_ := Lib.hid (bOn6 HB.out hb)
  have HP_ := Lib.hid (HP.out.below hb)
  have HF_ := Lib.hid (HF.out.below hb)
  have HN_ := Lib.hid (HN.out.below hb)
  have HGV_ := Lib.hid (HGV.out.below hb)
  have KR_ := Lib.hid (KR.out.keep hb)
  have HFA_ := Lib.hid (HFA.out.keep hb)
  have HS_ := Lib.hid (HS.out.below hb)
  clear HB HP HF HN HGV KR HFA HS
  have HB := HB_
  have HP := HP_
  have HF := HF_
  have HN := HN_
  have HGV := HGV_
  have KR := KR_
  have HFA := HFA_
  have HS := HS_
  clear HB_ HP_ HF_ HN_ HGV_ KR_ HFA_ HS_
  have HD := Lib.hid (one_i64s (x := 3) kb)
  have e13 := hx13.symm
  have z13 : Hid (x13.heap.size = x12.heap.size + 1) := Lib.hid (by rw [hx13]; simp)
  clear hb kb hx13
  rw [e13]
  clear e13
  try rw [show w15.heap.size + 1 = g13 from by have := z12.out; omega]
  try rw [show w15.heap.size = g12 from by omega]
  clear z12 z13
  refine (proves_is (n := ((4 : Nat) : Int)) HP.out HS.out HD.out (f := []) (near := []) (far := []) (Or.inl ⟨rfl, none, 0, rfl, fun _ => rfl⟩) (Or.inl ⟨rfl, none, 0, rfl, fun _ => rfl⟩) (Or.inl ⟨rfl, none, 0, rfl, fun _ => rfl⟩) (by decide) (by decide) (by decide) (by decide)).mono ?_
  rintro e w16 ⟨b, rfl, hbb, hb⟩
  obtain rfl : b = false := by
    cases b with
    | false => rfl
    | true =>
      have h := ((prvP_iff ke_ok ke_once).1 (hbb.1 rfl)).flow.len
      simp [KE] at h
  clear hbb
  have HB_ := Lib.hid (bOn6 HB.out hb)
  have HP_ := Lib.hid (HP.out.below hb)
  have HF_ := Lib.hid (HF.out.below hb)
  have HN_ := Lib.hid (HN.out.below hb)
  have HGV_ := Lib.hid (HGV.out.below hb)
  have KR_ := Lib.hid (KR.out.keep hb)
  have HFA_ := Lib.hid (HFA.out.keep hb)
  have HS_ := Lib.hid (HS.out.below hb)
  have HD_ := Lib.hid (HD.out.below hb)
  clear HB HP HF HN HGV KR HFA HS HD
  have HB := HB_
  have HP := HP_
  have HF := HF_
  have HN := HN_
  have HGV := HGV_
  have KR := KR_
  have HFA := HFA_
  have HS := HS_
  have HD := HD_
  clear HB_ HP_ HF_ HN_ HGV_ KR_ HFA_ HS_ HD_
  clear hb
  go_wp2_with fail
  go_ret
  exact ⟨rfl, HB.out⟩
end Go.Proofs.YtleheaffipokfaaDoor
