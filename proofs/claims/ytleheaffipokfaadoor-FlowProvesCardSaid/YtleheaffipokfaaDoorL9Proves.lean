/-
  PROVED: any result, whether it proves what it tells. For every number, all edges, every two sets, every result.
-/
import Derived.Test.YtleheaffipokfaaDoorP3
import Derived.Test.YtleheaffipokfaaDoorFlLm
import Derived.Test.YtleheaffipokfaaDoorFlAp
import Derived.Test.YtleheaffipokfaaDoorLaid9
import Derived.RegionTactic
import Derived.BigQuiet
import Derived.IntWalk
import Derived.Test.YtleheaffipokfaaDoorCards
import Derived.Test.YtleheaffipokfaaDoorTie
import Derived.SevenTiedAt
import Derived.Test.YtleheaffipokfaaDoorP2
namespace Go.Proofs.YtleheaffipokfaaDoor
open Go.ChangeShapes Go.WideShapes Go.ChangeAt Go.RowKit

/-- A result in memory. -/
def ToT (V : Int) (f : List Int) (near far : List Bool) (v : Value) (_ : Unit) (w : World) : Prop := ∃ fv nv gv, v = .agg #[.int .i64 V, fv, nv, gv] ∧ I64s w fv f ∧ Bools w nv near ∧ Bools w gv far
theorem ToT.st {V : Int} {f : List Int} {near far : List Bool} (v : Value) (s : Unit) (w : World) (s' : Unit) (w' : World) (h : ToT V f near far v s w) (hr : GG.RlB s w s' w') : ToT V f near far v s' w' := by
  obtain ⟨fv, nv, gv, e, h1, h2, h3⟩ := h
  exact ⟨fv, nv, gv, e, h1.below hr, h2.below hr, h3.below hr⟩
def EdT (l : List (Int × Int)) (v : Value) (_ : Unit) (w : World) : Prop := Prs w v l
theorem EdT.st {l : List (Int × Int)} (v : Value) (s : Unit) (w : World) (s' : Unit) (w' : World) (h : EdT l v s w) (hr : GG.RlB s w s' w') : EdT l v s' w' := Prs.below h hr
theorem bool_same {a b : Bool} {Q : Prop} (h : a = true ↔ Q) (h' : b = true ↔ Q) : a = b := Bool.eq_iff_iff.2 (h.trans h'.symm)
theorem bool_of (Q : Prop) : ∃ b : Bool, b = true ↔ Q := by
  rcases Classical.em Q with h | h
  · exact ⟨true, by simp [h]⟩
  · exact ⟨false, by simp [h]⟩
set_option maxHeartbeats 8000000 in
set_option maxRecDepth 100000 in
theorem proves_walk (n : Int) (ev : Value) (l : List (Int × Int)) (sv : Value) (src : List Int) (dv : Value) (dst : List Int) (V : Int) (fv nv gv : Value) (f : List Int) (near far : List Bool) (w : World) (hg : ErrT w) (_ : -9223372036854775808 ≤ n) (_ : n ≤ 9223372036854775807) (he : Prs w ev l) (_ : InPrs l) (hs : I64s w sv src) (_ : In64 src) (hd : I64s w dv dst) (_ : In64 dst) (_ : -9223372036854775808 ≤ V) (_ : V ≤ 9223372036854775807) (hf : I64s w fv f) (_ : In64 f) (hn : Bools w nv near) (hgv : Bools w gv far) :
    Calls Tryd.prog 3 #[.int .i64 n, ev, sv, dv, .agg #[.int .i64 V, fv, nv, gv]] w fun e w' => e = .returned (.bool true) ∧ Below w.heap.size w w' := by
  obtain ⟨fq0, fc0, rfl⟩ := hf.shape
  obtain ⟨nq0, nc0, rfl⟩ := hn.shape
  obtain ⟨gq0, gc0, rfl⟩ := hgv.shape
  have HF := Lib.hid hf
  have HN := Lib.hid hn
  have HGV := Lib.hid hgv
  clear hf hn hgv
  obtain ⟨eq0, ec0, rfl⟩ := he.shape
  obtain ⟨sq0, sc0, rfl⟩ := hs.shape
  obtain ⟨dq0, dc0, rfl⟩ := hd.shape
  have HG := Lib.hid hg
  have HB := Lib.hid (Below.refl w.heap.size w)
  have HE := Lib.hid he
  have HS := Lib.hid hs
  have HD := Lib.hid hd
  clear hg he hs hd
  obtain ⟨x1, hx1⟩ := named (w.alloc (.cells #[.int .i64 V, .slice fq0 f.length fc0, .slice nq0 near.length nc0, .slice gq0 far.length gc0] 26))
  have hb : Below w.heap.size w x1 := by rw [hx1]; exact below_alloc1 _
  obtain ⟨g1, hg1⟩ : ∃ g, w.heap.size = g := ⟨_, rfl⟩
  have kb : Blk x1 g1 #[.int .i64 V, .slice fq0 f.length fc0, .slice nq0 near.length nc0, .slice gq0 far.length gc0] 26 := by rw [hx1]; exact Blk.new _ _ _ _ hg1
  have HF_ := Lib.hid (HF.out.below hb)
  have HN_ := Lib.hid (HN.out.below hb)
  have HGV_ := Lib.hid (HGV.out.below hb)
  have HB_ := Lib.hid (bOn6 HB.out hb)
  have HE_ := Lib.hid (HE.out.below hb)
  have HS_ := Lib.hid (HS.out.below hb)
  have HD_ := Lib.hid (HD.out.below hb)
  clear HF HN HGV HB HE HS HD
  have HF := HF_
  have HN := HN_
  have HGV := HGV_
  have HB := HB_
  have HE := HE_
  have HS := HS_
  have HD := HD_
  clear HF_ HN_ HGV_ HB_ HE_ HS_ HD_
  have KR := Lib.hid (kb)
  have e1 := hx1.symm
  have z1 : Hid (x1.heap.size = w.heap.size + 1) := Lib.hid (by rw [hx1]; simp)
  clear hb kb hx1
  go_enter Tryd.func3, Tryd.ntmps3
  go_wp2_with fail
  clear e1 z1
  refine (known9_any _ (HG.out.below HG.out.lt HB.out)).mono ?_
  rintro e w1 ⟨rfl, hb⟩
  have HF_ := Lib.hid (HF.out.below hb)
  have HN_ := Lib.hid (HN.out.below hb)
  have HGV_ := Lib.hid (HGV.out.below hb)
  have HB_ := Lib.hid (bOn6 HB.out hb)
  have HE_ := Lib.hid (HE.out.below hb)
  have HS_ := Lib.hid (HS.out.below hb)
  have HD_ := Lib.hid (HD.out.below hb)
  have KR_ := Lib.hid (KR.out.keep hb)
  clear HF HN HGV HB HE HS HD KR
  have HF := HF_
  have HN := HN_
  have HGV := HGV_
  have HB := HB_
  have HE := HE_
  have HS := HS_
  have HD := HD_
  have KR := KR_
  clear HF_ HN_ HGV_ HB_ HE_ HS_ HD_ KR_
  clear hb
  obtain ⟨k0, k1, k2, k3, -⟩ := KR.out.o4
  have kl := KR.out.lt
  by_cases c0 : 60 < n
  · have d0 : decide (60 < n) = true := by simpa using c0
    go_wp2_with fail
    go_ret
    exact ⟨rfl, HB.out⟩
  have d0 : decide (60 < n) = false := by simpa using c0
  by_cases c1 : (150 : Int) < (l.length : Int)
  · have d1 : decide ((150 : Int) < (l.length : Int)) = true := by simpa using c1
    go_wp2_with fail
    go_ret
    exact ⟨rfl, HB.out⟩
  have d1 : decide ((150 : Int) < (l.length : Int)) = false := by simpa using c1
  by_cases c2 : (80 : Int) < (src.length : Int)
  · have d2 : decide ((80 : Int) < (src.length : Int)) = true := by simpa using c2
    go_wp2_with fail
    go_ret
    exact ⟨rfl, HB.out⟩
  have d2 : decide ((80 : Int) < (src.length : Int)) = false := by simpa using c2
  by_cases c3 : (80 : Int) < (dst.length : Int)
  · have d3 : decide ((80 : Int) < (dst.length : Int)) = true := by simpa using c3
    go_wp2_with fail
    go_ret
    exact ⟨rfl, HB.out⟩
  have d3 : decide ((80 : Int) < (dst.length : Int)) = false := by simpa using c3
  by_cases c4 : (200 : Int) < (f.length : Int)
  · have d4 : decide ((200 : Int) < (f.length : Int)) = true := by simpa using c4
    go_wp2_with fail
    go_ret
    exact ⟨rfl, HB.out⟩
  have d4 : decide ((200 : Int) < (f.length : Int)) = false := by simpa using c4
  by_cases c5 : (100 : Int) < (near.length : Int)
  · have d5 : decide ((100 : Int) < (near.length : Int)) = true := by simpa using c5
    go_wp2_with fail
    go_ret
    exact ⟨rfl, HB.out⟩
  have d5 : decide ((100 : Int) < (near.length : Int)) = false := by simpa using c5
  by_cases c6 : (100 : Int) < (far.length : Int)
  · have d6 : decide ((100 : Int) < (far.length : Int)) = true := by simpa using c6
    go_wp2_with fail
    go_ret
    exact ⟨rfl, HB.out⟩
  have d6 : decide ((100 : Int) < (far.length : Int)) = false := by simpa using c6
  have HLN : Hid (n ≤ 4096 ∧ l.length ≤ 16384 ∧ src.length ≤ 1000000 ∧ dst.length ≤ 1000000) := Lib.hid (by omega)
  have HLF : Hid (f.length ≤ 100000 ∧ near.length ≤ 100000 ∧ far.length ≤ 100000 ∧ l.length ≤ 100000) := Lib.hid (by omega)
  obtain ⟨b, hbb⟩ := bool_of (PrvP n l src dst V f near far)
  have HBB := Lib.hid hbb
  have DS0 : Hid (GG.BelS w1 (fun _ => false) () w1.drew) := Lib.hid ⟨(Below.refl _ _).drew⟩
  clear hbb
  go_wp2_with fail
  clear d0 d1 d2 d3 d4 d5 d6 c0 c1 c2 c3 c4 c5 c6 k0 k1 k2 k3 kl
  refine' GG.wp_growL _ (GG.BelS w1) [[], [], [1], [], [], [], [1, 2, 5], [0, 1, 2, 3, 4, 5, 6], [], [], [], [], [], [0, 1, 2, 3, 4, 5, 6, 7, 8, 9, 10, 11, 12], [0, 1, 2, 3, 4, 5, 6, 7, 8, 9, 10, 11, 12, 13], [0, 1, 2, 3, 4, 5, 6, 7, 8, 9, 10, 11, 12, 13, 14]] (GG.Fact.lit (Rl := GG.RlB) _ :: GG.Fact.lit (Rl := GG.RlB) _ :: GG.Fact.prop (Rl := GG.RlB) _ _ :: GG.Fact.lit (Rl := GG.RlB) _ :: GG.Fact.lit (Rl := GG.RlB) _ :: GG.Fact.lit (Rl := GG.RlB) _ :: GG.Fact.prop (Rl := GG.RlB) _ _ :: GG.Fact.lit (Rl := GG.RlB) _ :: GG.Fact.lit (Rl := GG.RlB) _ :: GG.Fact.lit (Rl := GG.RlB) _ :: GG.Fact.lit (Rl := GG.RlB) _ :: GG.Fact.lit (Rl := GG.RlB) _ :: GG.Fact.lit (Rl := GG.RlB) _ :: GG.Fact.lit (Rl := GG.RlB) _ :: GG.Fact.lit (Rl := GG.RlB) _ :: GG.Fact.lit (Rl := GG.RlB) _ :: []) (by kernel_rfl) rfl (by kernel_rfl) (()) (DS0.out) ?seqpr
  case' seqpr => skip
  (refine' GG.grow_lit (GG.BelS.still) rfl ?wtpr0 ?runpr0 ?putpr0 ?nextpr0; (case wtpr0 => rfl); (case runpr0 => (intro w' hS; (obtain ⟨dn, s, hS⟩ := hS); (have k9 := KR.out.keep hS.b); (obtain ⟨k0, k1, k2, k3, -⟩ := k9.o4); (have kl := k9.lt); clear k9; clear hS; go_simp; first | done | exact rfl)); (case putpr0 => (first | (simp only [Act.put, List.setIfInBounds_toArray, List.set_cons_zero, List.set_cons_succ]; first | done | exact rfl) | rfl)); (case' nextpr0 => skip))
  (refine' GG.grow_lit (GG.BelS.still) rfl ?wtpr1 ?runpr1 ?putpr1 ?nextpr1; (case wtpr1 => rfl); (case runpr1 => (intro w' hS; (obtain ⟨dn, s, hS⟩ := hS); (have k9 := KR.out.keep hS.b); (obtain ⟨k0, k1, k2, k3, -⟩ := k9.o4); (have kl := k9.lt); clear k9; clear hS; go_simp; first | done | exact rfl)); (case putpr1 => (first | (simp only [Act.put, List.setIfInBounds_toArray, List.set_cons_zero, List.set_cons_succ]; first | done | exact rfl) | rfl)); (case' nextpr1 => skip))
  (refine' GG.grow_any_call (p := EdT l) (hp := EdT.st) rfl Tryd.func6 (by kernel_rfl) rfl rfl ?wtpr2 ?runpr2 ?putpr2 ?nextpr2; (case wtpr2 => rfl); (case runpr2 => (intro dn s w' hS hd H; exact (copies_is (HE.out.below hS.b) HLF.out.2.2.2).mono (fun e w2 h => by obtain ⟨u, h1, h2, hb⟩ := h; exact ⟨u, (), h1, h2, ⟨hS.b.trans (hb.mono hS.b.size)⟩, hb, hb.size⟩))); (case putpr2 => (intro v; (simp only [Act.put, List.setIfInBounds_toArray, List.set_cons_zero, List.set_cons_succ]; first | done | exact rfl))); (case' nextpr2 => intro v2))
  (refine' GG.grow_lit (GG.BelS.still) rfl ?wtpr3 ?runpr3 ?putpr3 ?nextpr3; (case wtpr3 => rfl); (case runpr3 => (intro w' hS; (obtain ⟨dn, s, hS⟩ := hS); (have k9 := KR.out.keep hS.b); (obtain ⟨k0, k1, k2, k3, -⟩ := k9.o4); (have kl := k9.lt); clear k9; clear hS; go_simp; first | done | exact rfl)); (case putpr3 => (first | (simp only [Act.put, List.setIfInBounds_toArray, List.set_cons_zero, List.set_cons_succ]; first | done | exact rfl) | rfl)); (case' nextpr3 => skip))
  (refine' GG.grow_lit (GG.BelS.still) rfl ?wtpr4 ?runpr4 ?putpr4 ?nextpr4; (case wtpr4 => rfl); (case runpr4 => (intro w' hS; (obtain ⟨dn, s, hS⟩ := hS); (have k9 := KR.out.keep hS.b); (obtain ⟨k0, k1, k2, k3, -⟩ := k9.o4); (have kl := k9.lt); clear k9; clear hS; go_simp; first | done | exact rfl)); (case putpr4 => (first | (simp only [Act.put, List.setIfInBounds_toArray, List.set_cons_zero, List.set_cons_succ]; first | done | exact rfl) | rfl)); (case' nextpr4 => skip))
  (refine' GG.grow_lit (GG.BelS.still) rfl ?wtpr5 ?runpr5 ?putpr5 ?nextpr5; (case wtpr5 => rfl); (case runpr5 => (intro w' hS; (obtain ⟨dn, s, hS⟩ := hS); (have k9 := KR.out.keep hS.b); (obtain ⟨k0, k1, k2, k3, -⟩ := k9.o4); (have kl := k9.lt); clear k9; clear hS; go_simp; first | done | exact rfl)); (case putpr5 => (first | (simp only [Act.put, List.setIfInBounds_toArray, List.set_cons_zero, List.set_cons_succ]; first | done | exact rfl) | rfl)); (case' nextpr5 => skip))
  (refine' GG.grow_any_call (p := ToT V f near far) (hp := ToT.st) rfl Tryd.func7 (by kernel_rfl) rfl rfl ?wtpr6 ?runpr6 ?putpr6 ?nextpr6; (case wtpr6 => rfl); (case runpr6 => (intro dn s w' hS hd H; exact (to_is (HF.out.below hS.b) (HN.out.below hS.b) (HGV.out.below hS.b) HLF.out.1 HLF.out.2.1 HLF.out.2.2.1).mono (fun e w2 h => by obtain ⟨fv, nv, gv, h1, h2, h3, h4, hb⟩ := h; exact ⟨_, (), h1, ⟨fv, nv, gv, rfl, h2, h3, h4⟩, ⟨hS.b.trans (hb.mono hS.b.size)⟩, hb, hb.size⟩))); (case putpr6 => (intro v; (simp only [Act.put, List.setIfInBounds_toArray, List.set_cons_zero, List.set_cons_succ]; first | done | exact rfl))); (case' nextpr6 => intro v6))
  (refine' GG.grow_lit_call (u := .bool b) rfl Tryd.func5 (by kernel_rfl) rfl rfl ?wtpr7 ?runpr7 ?putpr7 ?nextpr7; (case wtpr7 => rfl); (case runpr7 => (intro dn s w' hS hd H; (have h2 : EdT l v2 () w' := H 2 (by decide)); (obtain ⟨fv, nv, gv, e6, h3, h4, h5⟩ := (show ToT V f near far v6 () w' from H 6 (by decide))); subst e6; exact (proves_is h2 (HS.out.below hS.b) (HD.out.below hS.b) h3 h4 h5 HLN.out.1 HLN.out.2.1 HLN.out.2.2.1 HLN.out.2.2.2).mono (fun e w2 h => by obtain ⟨b', h1, hq, hb⟩ := h; exact ⟨(), by rw [h1, bool_same hq HBB.out], ⟨hS.b.trans (hb.mono hS.b.size)⟩, hb, hb.size⟩))); (case putpr7 => (first | (simp only [Act.put, List.setIfInBounds_toArray, List.set_cons_zero, List.set_cons_succ]; first | done | exact rfl) | rfl)); (case' nextpr7 => skip))
  (refine' GG.grow_lit (GG.BelS.still) rfl ?wtpr8 ?runpr8 ?putpr8 ?nextpr8; (case wtpr8 => rfl); (case runpr8 => (intro w' hS; (obtain ⟨dn, s, hS⟩ := hS); (have k9 := KR.out.keep hS.b); (obtain ⟨k0, k1, k2, k3, -⟩ := k9.o4); (have kl := k9.lt); clear k9; clear hS; go_simp; first | done | exact rfl)); (case putpr8 => (first | (simp only [Act.put, List.setIfInBounds_toArray, List.set_cons_zero, List.set_cons_succ]; first | done | exact rfl) | rfl)); (case' nextpr8 => skip))
  (refine' GG.grow_lit (GG.BelS.still) rfl ?wtpr9 ?runpr9 ?putpr9 ?nextpr9; (case wtpr9 => rfl); (case runpr9 => (intro w' hS; (obtain ⟨dn, s, hS⟩ := hS); (have k9 := KR.out.keep hS.b); (obtain ⟨k0, k1, k2, k3, -⟩ := k9.o4); (have kl := k9.lt); clear k9; clear hS; go_simp; first | done | exact rfl)); (case putpr9 => (first | (simp only [Act.put, List.setIfInBounds_toArray, List.set_cons_zero, List.set_cons_succ]; first | done | exact rfl) | rfl)); (case' nextpr9 => skip))
  (refine' GG.grow_lit (GG.BelS.still) rfl ?wtpr10 ?runpr10 ?putpr10 ?nextpr10; (case wtpr10 => rfl); (case runpr10 => (intro w' hS; (obtain ⟨dn, s, hS⟩ := hS); (have k9 := KR.out.keep hS.b); (obtain ⟨k0, k1, k2, k3, -⟩ := k9.o4); (have kl := k9.lt); clear k9; clear hS; go_simp; first | done | exact rfl)); (case putpr10 => (first | (simp only [Act.put, List.setIfInBounds_toArray, List.set_cons_zero, List.set_cons_succ]; first | done | exact rfl) | rfl)); (case' nextpr10 => skip))
  (refine' GG.grow_lit (GG.BelS.still) rfl ?wtpr11 ?runpr11 ?putpr11 ?nextpr11; (case wtpr11 => rfl); (case runpr11 => (intro w' hS; (obtain ⟨dn, s, hS⟩ := hS); (have k9 := KR.out.keep hS.b); (obtain ⟨k0, k1, k2, k3, -⟩ := k9.o4); (have kl := k9.lt); clear k9; clear hS; go_simp; first | done | exact rfl)); (case putpr11 => (first | (simp only [Act.put, List.setIfInBounds_toArray, List.set_cons_zero, List.set_cons_succ]; first | done | exact rfl) | rfl)); (case' nextpr11 => skip))
  (refine' GG.grow_lit (GG.BelS.still) rfl ?wtpr12 ?runpr12 ?putpr12 ?nextpr12; (case wtpr12 => rfl); (case runpr12 => (intro w' hS; (obtain ⟨dn, s, hS⟩ := hS); (have k9 := KR.out.keep hS.b); (obtain ⟨k0, k1, k2, k3, -⟩ := k9.o4); (have kl := k9.lt); clear k9; clear hS; go_simp; first | done | exact rfl)); (case putpr12 => (first | (simp only [Act.put, List.setIfInBounds_toArray, List.set_cons_zero, List.set_cons_succ]; first | done | exact rfl) | rfl)); (case' nextpr12 => skip))
  (refine' GG.grow_lit_call (u := .bool b) rfl Tryd.func8 (by kernel_rfl) rfl rfl ?wtpr13 ?runpr13 ?putpr13 ?nextpr13; (case wtpr13 => rfl); (case runpr13 => (intro dn s w' hS hd H; exact (rproves_is (HE.out.below hS.b) (HS.out.below hS.b) (HD.out.below hS.b) (HF.out.below hS.b) (HN.out.below hS.b) (HGV.out.below hS.b) HLN.out.1 HLN.out.2.1 HLN.out.2.2.1 HLN.out.2.2.2).mono (fun e w2 h => by obtain ⟨b', h1, hq, hb⟩ := h; exact ⟨(), by rw [h1, bool_same hq HBB.out], ⟨hS.b.trans (hb.mono hS.b.size)⟩, hb, hb.size⟩))); (case putpr13 => (first | (simp only [Act.put, List.setIfInBounds_toArray, List.set_cons_zero, List.set_cons_succ]; first | done | exact rfl) | rfl)); (case' nextpr13 => skip))
  (refine' GG.grow_lit (GG.BelS.still) rfl ?wtpr14 ?runpr14 ?putpr14 ?nextpr14; (case wtpr14 => rfl); (case runpr14 => (intro w' hS; (obtain ⟨dn, s, hS⟩ := hS); (have k9 := KR.out.keep hS.b); (obtain ⟨k0, k1, k2, k3, -⟩ := k9.o4); (have kl := k9.lt); clear k9; clear hS; go_simp; first | done | exact rfl)); (case putpr14 => (first | (simp only [Act.put, List.setIfInBounds_toArray, List.set_cons_zero, List.set_cons_succ]; first | done | exact rfl) | rfl)); (case' nextpr14 => skip))
  (refine' GG.grow_lit (GG.BelS.still) rfl ?wtpr15 ?runpr15 ?putpr15 ?nextpr15; (case wtpr15 => rfl); (case runpr15 => (intro w' hS; (obtain ⟨dn, s, hS⟩ := hS); (have k9 := KR.out.keep hS.b); (obtain ⟨k0, k1, k2, k3, -⟩ := k9.o4); (have kl := k9.lt); clear k9; clear hS; go_simp; first | done | exact rfl)); (case putpr15 => (first | (simp only [Act.put, List.setIfInBounds_toArray, List.set_cons_zero, List.set_cons_succ]; first | done | exact rfl) | rfl)); (case' nextpr15 => skip))
  intro dn s w8 hS _ _
  have HBE := Lib.hid (bOn6 HB.out hS.b)
  clear hS DS0
  go_wp2_with fail
  go_ret
  exact ⟨rfl, HBE.out⟩
set_option maxRecDepth 100000 in
theorem flowProves_walks : Walks laidAll 3 Tryd.f3 := by
  intro H enc W args ds g
  obtain ⟨ps, hA⟩ := g.reads
  obtain ⟨base, hval⟩ := g.okay
  rw [Tryd.params3] at hA hval
  obtain ⟨v0, vs0, d0, ds0, p0, q0, hargs, rfl, rfl, h0, r0⟩ := trodAll_cons hA
  obtain ⟨v1, vs1, d1, ds1, p1, q1, rfl, rfl, rfl, h1, r1⟩ := trodAll_cons r0
  obtain ⟨v2, vs2, d2, ds2, p2, q2, rfl, rfl, rfl, h2, r2⟩ := trodAll_cons r1
  obtain ⟨v3, vs3, d3, ds3, p3, q3, rfl, rfl, rfl, h3, r3⟩ := trodAll_cons r2
  obtain ⟨v4, vs4, d4, ds4, p4, q4, rfl, rfl, rfl, h4, r4⟩ := trodAll_cons r3
  obtain ⟨rfl, rfl, rfl⟩ := trodAll_nil r4
  obtain rfl : args = #[v0, v1, v2, v3, v4] := Array.toList_inj.1 hargs
  obtain ⟨x0, rfl, rfl, rfl, w0⟩ := open_int Tryd.underlying3 (hval 0 3 v0 rfl rfl) h0
  obtain ⟨x1, w1, u1⟩ := open_edges (hval 1 22 v1 rfl rfl) h1
  obtain ⟨x2, w2, u2⟩ := open_intsIn (hval 2 23 v2 rfl rfl) h2
  obtain ⟨x3, w3, u3⟩ := open_intsIn (hval 3 23 v3 rfl rfl) h3
  obtain ⟨V4, fv4, nv4, gv4, f4, near4, far4, rfl, V04, F04, F14, N04, G04⟩ := open_res (hval 4 26 v4 rfl rfl) h4
  exact proves_walk x0 v1 x1 v2 x2 v3 x3 V4 fv4 nv4 gv4 f4 near4 far4 W (errT_of_laid g.laid) (wf64 w0).1 (wf64 w0).2 w1 u1 w2 u2 w3 u3 V04.1 V04.2 F04 F14 N04 G04

theorem flowProves_row : Rows.FlowProvesSaid :=
  OpenClaim.holds_of_wide 3 Tryd.f3 rfl rfl rfl rfl rfl rfl rfl ⟨rfl, rfl, rfl, rfl, rfl⟩ rfl rfl rfl rfl rfl (by kernel_rfl) Tryd.func3 (by kernel_rfl)
    (of_decide_eq_true (by kernel_rfl)) (by unfold Func.isWrapper; rw [if_neg (of_decide_eq_false (by kernel_rfl))]; exact ⟨rfl, rfl⟩)
    (fun os started H enc _ => law_lifted (s := Rows.flowProvesSpec) (L := laidAll) Tryd.func3 (by kernel_rfl) rfl (by kernel_rfl)
      (fun H ds hl => by
        rw [Tryd.params3] at hl
        match ds, hl with
        | [_, _, _, _, _], _ => exact ⟨rfl, rfl, rfl⟩)
      (by kernel_rfl) os started H enc
      (ChangeSpec.witness_at (enc := enc) (C := Tryd.checked) (os := os) (X := fun w _ => laidMetH Tryd.prog laidAll w) false (laidWorld os) #[.int .i64 0, .slice none 0 0, .slice none 0 0, .slice none 0 0, .agg #[.int .i64 0, .slice none 0 0, .slice none 0 0, .slice none 0 0]] 8 rfl (by kernel_rfl) (by kernel_rfl) (by kernel_rfl) (by kernel_rfl) (by kernel_rfl) (laidWorld_met os _))
      flowProves_walks)

theorem flowProves_card : Rows.FlowProvesCardSaid :=
  Claim7.holds_tied_plain_at .later [] laidKindsAll true (Rows.flowProvesCard.stood.harness) true
    flowProves_row (fun _ h => by cases h) (by kernel_rfl) (fun _ h => by cases h) flowProves_row_tie rfl ⟨rfl, rfl⟩ (by kernel_rfl) rfl
    (fun f fn hf hfn => by
      obtain rfl : f = 3 := Option.some.inj ((show Tryd.prog.funcNamed "roundsman/roundsmanlaw9.FlowProves" = some 3 by kernel_rfl).symm.trans hf) |>.symm
      obtain rfl : fn = Tryd.f3 := (Option.some.inj (Tryd.func3.symm.trans hfn)).symm
      exact ⟨by kernel_rfl, fun j t ht => by
        rw [Tryd.params3] at ht
        exact stand_all #[3, 22, 23, 23, 26] (by kernel_rfl) j t ht⟩)
    (by kernel_rfl)
#print axioms flowProves_card
end Go.Proofs.YtleheaffipokfaaDoor
