/-
  PROVED: any two tables: which may be, or what is wrong first, whether they are alike; of one that may be each turn, how many are forbidden, and one that is turned into another cost, as the document has them. For every two tables, every in, out and cost. Conditions: the listed library variable holds what the program's own text lays (the card ties it).
-/
import Derived.Test.YtboimdgldjimpaaDoorKnown2
import Derived.Test.YtboimdgldjimpaaDoorLaw2T
import Derived.Test.YtboimdgldjimpaaDoorLaid2
import Derived.Test.YtboimdgldjimpaaDoorCards
import Derived.Test.YtboimdgldjimpaaDoorTie
import Derived.SevenTiedAt
namespace Go.Proofs.YtboimdgldjimpaaDoor
open Go.ChangeShapes Go.WideShapes Go.ChangeAt Go.RowKit

set_option maxHeartbeats 4000000 in
set_option maxRecDepth 100000 in
theorem any_long (v u : Value) (I O : Int) (ul : Value) (l : List Int) (J M : Int) (um : Value) (m : List Int) (x y c : Int) (w : World) (hg : ErrT w) (hv : TabIn w v I O ul l) (hu : TabIn w u J M um m) (h : 600 < l.length ∨ 600 < m.length) :
    Calls Tryd.prog 3 #[v, u, .int .i64 x, .int .i64 y, .int .i64 c] w fun e w' => e = .returned (.bool true) ∧ Below w.heap.size w w' := by
  obtain ⟨rfl, hl, inl, hI, hO⟩ := hv
  obtain ⟨rfl, hm, inm, hJ, hM⟩ := hu
  obtain ⟨lq, lc, rfl⟩ := hl.shape
  obtain ⟨mq, mc, rfl⟩ := hm.shape
  have d : decide ((600 : Int) < (l.length : Int)) = true ∨ decide ((600 : Int) < (l.length : Int)) = false ∧ decide ((600 : Int) < (m.length : Int)) = true := by
    by_cases h1 : 600 < l.length
    · left; simp; omega
    · right; simp; omega
  clear h
  go_enter Tryd.func3, Tryd.ntmps3
  go_wp2_with fail
  obtain ⟨W0, hW0⟩ := named ((w.alloc (.cells #[.int .i64 I, .int .i64 O, .slice lq l.length lc] 24)).alloc (.cells #[.int .i64 J, .int .i64 M, .slice mq m.length mc] 24))
  rw [← hW0]
  have hc0 : Below w.heap.size w W0 := by rw [hW0]; exact below_alloc2 _ _
  have B0 := Lib.hid hc0
  have KA : Hid (Blk W0 (w.heap.size) #[.int .i64 I, .int .i64 O, .slice lq l.length lc] 24) := by rw [hW0]; exact Lib.hid ((Blk.new _ _ _ _ rfl).old _)
  have KB : Hid (Blk W0 (w.heap.size + 1) #[.int .i64 J, .int .i64 M, .slice mq m.length mc] 24) := by rw [hW0]; exact Lib.hid (Blk.new _ _ _ _ (by simp))
  have TL := Lib.hid (hl.below hc0)
  have TM := Lib.hid (hm.below hc0)
  have HG := Lib.hid (hg.keep hc0)
  clear hc0 hW0 hl hm hg
  refine (known2_any _ HG.out).mono ?_
  rintro e w1 ⟨rfl, hb⟩
  have hd1 : Below W0.heap.size W0 w1 := hb
  have KA_ := Lib.hid (KA.out.keep hd1)
  have KB_ := Lib.hid (KB.out.keep hd1)
  have TL_ := Lib.hid (TL.out.below hd1)
  have TM_ := Lib.hid (TM.out.below hd1)
  have HG_ := Lib.hid (HG.out.keep hd1)
  clear KA KB TL TM HG
  have KA := KA_
  have KB := KB_
  have TL := TL_
  have TM := TM_
  have HG := HG_
  clear KA_ KB_ TL_ TM_ HG_
  have B1 : Hid (Below w.heap.size w w1) := Lib.hid (B0.out.trans (hd1.mono B0.out.size))
  clear B0
  have B0 := B1
  clear B1
  clear hb hd1 
  obtain ⟨p0, p1, p2, -, -, -⟩ := KA.out.o3
  obtain ⟨r0, r1, r2, -, -, -⟩ := KB.out.o3
  rcases d with d | ⟨d, d2⟩
  all_goals
    go_wp2_with fail
    go_ret
    exact ⟨rfl, B0.out⟩

set_option maxHeartbeats 4000000 in
set_option maxRecDepth 100000 in
theorem any_bad (v u : Value) (I O : Int) (ul : Value) (l : List Int) (J M : Int) (um : Value) (m : List Int) (x y c : Int) (w : World) (hg : ErrT w) (hv : TabIn w v I O ul l) (hu : TabIn w u J M um m) (h1 : l.length ≤ 600) (h2 : m.length ≤ 600) (hck : ¬ (chkT I O l).2 = 0) :
    Calls Tryd.prog 3 #[v, u, .int .i64 x, .int .i64 y, .int .i64 c] w fun e w' => e = .returned (.bool true) ∧ Below w.heap.size w w' := by
  obtain ⟨rfl, hl, inl, hI, hO⟩ := hv
  obtain ⟨rfl, hm, inm, hJ, hM⟩ := hu
  obtain ⟨lq, lc, rfl⟩ := hl.shape
  obtain ⟨mq, mc, rfl⟩ := hm.shape
  have d1 : decide ((600 : Int) < (l.length : Int)) = false := by simp; omega
  have d2 : decide ((600 : Int) < (m.length : Int)) = false := by simp; omega
  go_enter Tryd.func3, Tryd.ntmps3
  go_wp2_with fail
  obtain ⟨W0, hW0⟩ := named ((w.alloc (.cells #[.int .i64 I, .int .i64 O, .slice lq l.length lc] 24)).alloc (.cells #[.int .i64 J, .int .i64 M, .slice mq m.length mc] 24))
  rw [← hW0]
  have hc0 : Below w.heap.size w W0 := by rw [hW0]; exact below_alloc2 _ _
  have B0 := Lib.hid hc0
  have KA : Hid (Blk W0 (w.heap.size) #[.int .i64 I, .int .i64 O, .slice lq l.length lc] 24) := by rw [hW0]; exact Lib.hid ((Blk.new _ _ _ _ rfl).old _)
  have KB : Hid (Blk W0 (w.heap.size + 1) #[.int .i64 J, .int .i64 M, .slice mq m.length mc] 24) := by rw [hW0]; exact Lib.hid (Blk.new _ _ _ _ (by simp))
  have TL := Lib.hid (hl.below hc0)
  have TM := Lib.hid (hm.below hc0)
  have HG := Lib.hid (hg.keep hc0)
  clear hc0 hW0 hl hm hg
  refine (known2_any _ HG.out).mono ?_
  rintro e w1 ⟨rfl, hb⟩
  obtain ⟨p0, p1, p2, -, -, -⟩ := (KA.out.keep hb).o3
  obtain ⟨r0, r1, r2, -, -, -⟩ := (KB.out.keep hb).o3
  go_wp2_with fail
  clear p0 p1 p2 r0 r1 r2
  have hd1 : Below W0.heap.size W0 w1 := hb
  have KA_ := Lib.hid (KA.out.keep hd1)
  have KB_ := Lib.hid (KB.out.keep hd1)
  have TL_ := Lib.hid (TL.out.below hd1)
  have TM_ := Lib.hid (TM.out.below hd1)
  have HG_ := Lib.hid (HG.out.keep hd1)
  clear KA KB TL TM HG
  have KA := KA_
  have KB := KB_
  have TL := TL_
  have TM := TM_
  have HG := HG_
  clear KA_ KB_ TL_ TM_ HG_
  have B1 : Hid (Below w.heap.size w w1) := Lib.hid (B0.out.trans (hd1.mono B0.out.size))
  clear B0
  have B0 := B1
  clear B1
  clear hb hd1 
  refine (rcheck_any I O _ l _ TL.out inl).mono ?_
  rintro e w2 ⟨wv, rfl, hW, hb⟩
  obtain ⟨gq, gn, gc, rfl⟩ := hW.shape
  go_wp2_with fail
  obtain ⟨W2, hW2⟩ := named (w2.alloc (.cells #[.slice gq gn gc, .int .i64 (chkT I O l).2] 28))
  rw [← hW2]
  have hc2 : Below w2.heap.size w2 W2 := by rw [hW2]; exact below_alloc1 _
  have hd2 : Below w1.heap.size w1 W2 := hb.trans (hc2.mono hb.size)
  have KA_ := Lib.hid (KA.out.keep hd2)
  have KB_ := Lib.hid (KB.out.keep hd2)
  have TL_ := Lib.hid (TL.out.below hd2)
  have TM_ := Lib.hid (TM.out.below hd2)
  have HG_ := Lib.hid (HG.out.keep hd2)
  clear KA KB TL TM HG
  have KA := KA_
  have KB := KB_
  have TL := TL_
  have TM := TM_
  have HG := HG_
  clear KA_ KB_ TL_ TM_ HG_
  have B1 : Hid (Below w.heap.size w W2) := Lib.hid (B0.out.trans (hd2.mono B0.out.size))
  clear B0
  have B0 := B1
  clear B1
  have KW : Hid (Blk W2 (w2.heap.size) #[.slice gq gn gc, .int .i64 (chkT I O l).2] 28) := by rw [hW2]; exact Lib.hid (Blk.new _ _ _ _ rfl)
  have WG := Lib.hid (hW.below hc2)
  clear hb hW hd2 hc2 hW2 
  have hGS : Grows (fun w' => Below W2.heap.size W2 w') := Grows.below W2
  refine' wp_growL _ (fun w' => Below W2.heap.size W2 w') [[], [0], [1], [], [2, 3], [4], [5], [6], [6, 7], [6], [6, 9], [6, 8, 10], [6], [6], [6, 12, 13], [6, 11, 14], [6, 15], [16], [17], [17, 18], [17], [17, 20], [17, 19, 21], [17, 22], [17, 23]] (Fact.lit _ :: Fact.prop _ _ :: Fact.prop _ _ :: Fact.lit _ :: Fact.lit _ :: Fact.lit _ :: Fact.lit _ :: Fact.lit _ :: Fact.prop _ _ :: Fact.lit _ :: Fact.prop _ _ :: Fact.lit _ :: Fact.lit _ :: Fact.lit _ :: Fact.lit _ :: Fact.lit _ :: Fact.lit _ :: Fact.lit _ :: Fact.lit _ :: Fact.prop _ _ :: Fact.lit _ :: Fact.prop _ _ :: Fact.lit _ :: Fact.lit _ :: Fact.lit _ :: []) (by kernel_rfl) rfl (by kernel_rfl) (Below.refl _ _).drew ?seqsix
  case' seqsix => skip
  (first | (refine' grow_skip rfl ?wt69 ?put69 ?next69; (case wt69 => rfl)) | (refine' grow_lit rfl ?wt69 ?run69 ?put69 ?next69; (case wt69 => rfl); (case run69 => (intro w' hS H; clear H; (obtain ⟨a0, a1, a2, -, -, -⟩ := (KA.out.keep hS).o3); (obtain ⟨b0, b1, b2, -, -, -⟩ := (KB.out.keep hS).o3); (obtain ⟨g0, g1, -, -⟩ := (KW.out.keep hS).o2); clear hS; go_simp; first | done | exact rfl)))); (case put69 => (simp only [Act.put, List.setIfInBounds_toArray, List.set_cons_zero, List.set_cons_succ]; first | done | exact rfl)); (case' next69 => skip)
  (refine' grow_callP (p := fun v w => TabV w v I O l) (hp := fun v w w' h hb => h.below hb) rfl Tryd.func12 (by kernel_rfl) rfl hGS rfl ?wt120 ?run120 ?put120 ?next120; (case wt120 => rfl); (case run120 => (intro w' hS H; exact (to_any I O _ l w' (by omega) (TL.out.below hS)).mono (fun e w2 ⟨v, h1, h2, h3⟩ => ⟨v, h1, h2, h3⟩))); (case put120 => (intro v; simp only [Act.put, List.setIfInBounds_toArray, List.set_cons_zero, List.set_cons_succ]; first | done | exact rfl)); (case' next120 => intro v1))
  (refine' grow_callP (p := fun v w => FaultV w v (turnW (chkT I O l)) (chkT I O l).2) (hp := fun v w w' h hb => h.below hb) rfl Tryd.func11 (by kernel_rfl) rfl hGS rfl ?wt121 ?run121 ?put121 ?next121; (case wt121 => rfl); (case run121 => (intro w' hS H; (have hv1 : TabV w' v1 I O l := H 1 (by decide)); (obtain ⟨uv1, rfl, hv1⟩ := hv1); exact (tcheck_any I O _ l w' hv1 inl).mono (fun e w2 ⟨v, h1, h2, h3⟩ => ⟨v, h1, h2, h3⟩))); (case put121 => (intro v; simp only [Act.put, List.setIfInBounds_toArray, List.set_cons_zero, List.set_cons_succ]; first | done | exact rfl)); (case' next121 => intro v2))
  (first | (refine' grow_skip rfl ?wt70 ?put70 ?next70; (case wt70 => rfl)) | (refine' grow_lit rfl ?wt70 ?run70 ?put70 ?next70; (case wt70 => rfl); (case run70 => (intro w' hS H; clear H; (obtain ⟨a0, a1, a2, -, -, -⟩ := (KA.out.keep hS).o3); (obtain ⟨b0, b1, b2, -, -, -⟩ := (KB.out.keep hS).o3); (obtain ⟨g0, g1, -, -⟩ := (KW.out.keep hS).o2); clear hS; go_simp; first | done | exact rfl)))); (case put70 => (simp only [Act.put, List.setIfInBounds_toArray, List.set_cons_zero, List.set_cons_succ]; first | done | exact rfl)); (case' next70 => skip)
  (refine' grow_call (u := .bool true) rfl Tryd.func10 (by kernel_rfl) rfl hGS rfl ?wt122 ?run122 ?put122 ?next122; (case wt122 => rfl); (case run122 => (intro w' hS H; exact tells_post _ _ (turnW (chkT I O l)) (chkT I O l).2 w' (HG.out.keep hS) (H 2 (by decide)) (WG.out.below hS) (turnW_or _))); (case put122 => (simp only [Act.put, List.setIfInBounds_toArray, List.set_cons_zero, List.set_cons_succ]; first | done | exact rfl)); (case' next122 => skip))
  (first | (refine' grow_skip rfl ?wt71 ?put71 ?next71; (case wt71 => rfl)) | (refine' grow_lit rfl ?wt71 ?run71 ?put71 ?next71; (case wt71 => rfl); (case run71 => (intro w' hS H; clear H; (obtain ⟨a0, a1, a2, -, -, -⟩ := (KA.out.keep hS).o3); (obtain ⟨b0, b1, b2, -, -, -⟩ := (KB.out.keep hS).o3); (obtain ⟨g0, g1, -, -⟩ := (KW.out.keep hS).o2); clear hS; go_simp; first | done | exact rfl)))); (case put71 => (simp only [Act.put, List.setIfInBounds_toArray, List.set_cons_zero, List.set_cons_succ]; first | done | exact rfl)); (case' next71 => skip)
  (first | (refine' grow_skip rfl ?wt72 ?put72 ?next72; (case wt72 => rfl)) | (refine' grow_lit rfl ?wt72 ?run72 ?put72 ?next72; (case wt72 => rfl); (case run72 => (intro w' hS H; clear H; (obtain ⟨a0, a1, a2, -, -, -⟩ := (KA.out.keep hS).o3); (obtain ⟨b0, b1, b2, -, -, -⟩ := (KB.out.keep hS).o3); (obtain ⟨g0, g1, -, -⟩ := (KW.out.keep hS).o2); clear hS; go_simp; first | done | exact rfl)))); (case put72 => (simp only [Act.put, List.setIfInBounds_toArray, List.set_cons_zero, List.set_cons_succ]; first | done | exact rfl)); (case' next72 => skip)
  (first | (refine' grow_skip rfl ?wt73 ?put73 ?next73; (case wt73 => rfl)) | (refine' grow_lit rfl ?wt73 ?run73 ?put73 ?next73; (case wt73 => rfl); (case run73 => (intro w' hS H; clear H; (obtain ⟨a0, a1, a2, -, -, -⟩ := (KA.out.keep hS).o3); (obtain ⟨b0, b1, b2, -, -, -⟩ := (KB.out.keep hS).o3); (obtain ⟨g0, g1, -, -⟩ := (KW.out.keep hS).o2); clear hS; go_simp; first | done | exact rfl)))); (case put73 => (simp only [Act.put, List.setIfInBounds_toArray, List.set_cons_zero, List.set_cons_succ]; first | done | exact rfl)); (case' next73 => skip)
  (refine' grow_callP (p := fun v w => TabV w v I O l) (hp := fun v w w' h hb => h.below hb) rfl Tryd.func12 (by kernel_rfl) rfl hGS rfl ?wt123 ?run123 ?put123 ?next123; (case wt123 => rfl); (case run123 => (intro w' hS H; exact (to_any I O _ l w' (by omega) (TL.out.below hS)).mono (fun e w2 ⟨v, h1, h2, h3⟩ => ⟨v, h1, h2, h3⟩))); (case put123 => (intro v; simp only [Act.put, List.setIfInBounds_toArray, List.set_cons_zero, List.set_cons_succ]; first | done | exact rfl)); (case' next123 => intro v8))
  (first | (refine' grow_skip rfl ?wt74 ?put74 ?next74; (case wt74 => rfl)) | (refine' grow_lit rfl ?wt74 ?run74 ?put74 ?next74; (case wt74 => rfl); (case run74 => (intro w' hS H; clear H; (obtain ⟨a0, a1, a2, -, -, -⟩ := (KA.out.keep hS).o3); (obtain ⟨b0, b1, b2, -, -, -⟩ := (KB.out.keep hS).o3); (obtain ⟨g0, g1, -, -⟩ := (KW.out.keep hS).o2); clear hS; go_simp; first | done | exact rfl)))); (case put74 => (simp only [Act.put, List.setIfInBounds_toArray, List.set_cons_zero, List.set_cons_succ]; first | done | exact rfl)); (case' next74 => skip)
  (refine' grow_callP (p := fun v w => TabV w v J M m) (hp := fun v w w' h hb => h.below hb) rfl Tryd.func12 (by kernel_rfl) rfl hGS rfl ?wt124 ?run124 ?put124 ?next124; (case wt124 => rfl); (case run124 => (intro w' hS H; exact (to_any J M _ m w' (by omega) (TM.out.below hS)).mono (fun e w2 ⟨v, h1, h2, h3⟩ => ⟨v, h1, h2, h3⟩))); (case put124 => (intro v; simp only [Act.put, List.setIfInBounds_toArray, List.set_cons_zero, List.set_cons_succ]; first | done | exact rfl)); (case' next124 => intro v10))
  (refine' grow_call (u := .bool (decide (I = J ∧ O = M ∧ l = m))) rfl Tryd.func13 (by kernel_rfl) rfl hGS rfl ?wt125 ?run125 ?put125 ?next125; (case wt125 => rfl); (case run125 => (intro w' hS H; (have hv8 : TabV w' v8 I O l := H 8 (by decide)); (obtain ⟨uv8, rfl, hv8⟩ := hv8); (have hv10 : TabV w' v10 J M m := H 10 (by decide)); (obtain ⟨uv10, rfl, hv10⟩ := hv10); exact tsame_any I O J M _ _ l m w' hv8 hv10)); (case put125 => (simp only [Act.put, List.setIfInBounds_toArray, List.set_cons_zero, List.set_cons_succ]; first | done | exact rfl)); (case' next125 => skip))
  (first | (refine' grow_skip rfl ?wt75 ?put75 ?next75; (case wt75 => rfl)) | (refine' grow_lit rfl ?wt75 ?run75 ?put75 ?next75; (case wt75 => rfl); (case run75 => (intro w' hS H; clear H; (obtain ⟨a0, a1, a2, -, -, -⟩ := (KA.out.keep hS).o3); (obtain ⟨b0, b1, b2, -, -, -⟩ := (KB.out.keep hS).o3); (obtain ⟨g0, g1, -, -⟩ := (KW.out.keep hS).o2); clear hS; go_simp; first | done | exact rfl)))); (case put75 => (simp only [Act.put, List.setIfInBounds_toArray, List.set_cons_zero, List.set_cons_succ]; first | done | exact rfl)); (case' next75 => skip)
  (first | (refine' grow_skip rfl ?wt76 ?put76 ?next76; (case wt76 => rfl)) | (refine' grow_lit rfl ?wt76 ?run76 ?put76 ?next76; (case wt76 => rfl); (case run76 => (intro w' hS H; clear H; (obtain ⟨a0, a1, a2, -, -, -⟩ := (KA.out.keep hS).o3); (obtain ⟨b0, b1, b2, -, -, -⟩ := (KB.out.keep hS).o3); (obtain ⟨g0, g1, -, -⟩ := (KW.out.keep hS).o2); clear hS; go_simp; first | done | exact rfl)))); (case put76 => (simp only [Act.put, List.setIfInBounds_toArray, List.set_cons_zero, List.set_cons_succ]; first | done | exact rfl)); (case' next76 => skip)
  (refine' grow_call (u := .bool (decide (I = J ∧ O = M ∧ l = m))) rfl Tryd.func14 (by kernel_rfl) rfl hGS rfl ?wt126 ?run126 ?put126 ?next126; (case wt126 => rfl); (case run126 => (intro w' hS H; exact rsame_any I O J M _ _ l m w' (TL.out.below hS) (TM.out.below hS))); (case put126 => (simp only [Act.put, List.setIfInBounds_toArray, List.set_cons_zero, List.set_cons_succ]; first | done | exact rfl)); (case' next126 => skip))
  (first | (refine' grow_skip rfl ?wt77 ?put77 ?next77; (case wt77 => rfl)) | (refine' grow_lit rfl ?wt77 ?run77 ?put77 ?next77; (case wt77 => rfl); (case run77 => (intro w' hS H; clear H; (obtain ⟨a0, a1, a2, -, -, -⟩ := (KA.out.keep hS).o3); (obtain ⟨b0, b1, b2, -, -, -⟩ := (KB.out.keep hS).o3); (obtain ⟨g0, g1, -, -⟩ := (KW.out.keep hS).o2); clear hS; go_simp; first | done | exact rfl)))); (case put77 => (simp only [Act.put, List.setIfInBounds_toArray, List.set_cons_zero, List.set_cons_succ]; first | done | exact rfl)); (case' next77 => skip)
  (first | (refine' grow_skip rfl ?wt78 ?put78 ?next78; (case wt78 => rfl)) | (refine' grow_lit rfl ?wt78 ?run78 ?put78 ?next78; (case wt78 => rfl); (case run78 => (intro w' hS H; clear H; (obtain ⟨a0, a1, a2, -, -, -⟩ := (KA.out.keep hS).o3); (obtain ⟨b0, b1, b2, -, -, -⟩ := (KB.out.keep hS).o3); (obtain ⟨g0, g1, -, -⟩ := (KW.out.keep hS).o2); clear hS; go_simp; first | done | exact rfl)))); (case put78 => (simp only [Act.put, List.setIfInBounds_toArray, List.set_cons_zero, List.set_cons_succ]; first | done | exact rfl)); (case' next78 => skip)
  (first | (refine' grow_skip rfl ?wt79 ?put79 ?next79; (case wt79 => rfl)) | (refine' grow_lit rfl ?wt79 ?run79 ?put79 ?next79; (case wt79 => rfl); (case run79 => (intro w' hS H; clear H; (obtain ⟨a0, a1, a2, -, -, -⟩ := (KA.out.keep hS).o3); (obtain ⟨b0, b1, b2, -, -, -⟩ := (KB.out.keep hS).o3); (obtain ⟨g0, g1, -, -⟩ := (KW.out.keep hS).o2); clear hS; go_simp; first | done | exact rfl)))); (case put79 => (simp only [Act.put, List.setIfInBounds_toArray, List.set_cons_zero, List.set_cons_succ]; first | done | exact rfl)); (case' next79 => skip)
  (first | (refine' grow_skip rfl ?wt80 ?put80 ?next80; (case wt80 => rfl)) | (refine' grow_lit rfl ?wt80 ?run80 ?put80 ?next80; (case wt80 => rfl); (case run80 => (intro w' hS H; clear H; (obtain ⟨a0, a1, a2, -, -, -⟩ := (KA.out.keep hS).o3); (obtain ⟨b0, b1, b2, -, -, -⟩ := (KB.out.keep hS).o3); (obtain ⟨g0, g1, -, -⟩ := (KW.out.keep hS).o2); clear hS; go_simp; first | done | exact rfl)))); (case put80 => (simp only [Act.put, List.setIfInBounds_toArray, List.set_cons_zero, List.set_cons_succ]; first | done | exact rfl)); (case' next80 => skip)
  (refine' grow_callP (p := fun v w => TabV w v I O l) (hp := fun v w w' h hb => h.below hb) rfl Tryd.func12 (by kernel_rfl) rfl hGS rfl ?wt127 ?run127 ?put127 ?next127; (case wt127 => rfl); (case run127 => (intro w' hS H; exact (to_any I O _ l w' (by omega) (TL.out.below hS)).mono (fun e w2 ⟨v, h1, h2, h3⟩ => ⟨v, h1, h2, h3⟩))); (case put127 => (intro v; simp only [Act.put, List.setIfInBounds_toArray, List.set_cons_zero, List.set_cons_succ]; first | done | exact rfl)); (case' next127 => intro v19))
  (first | (refine' grow_skip rfl ?wt81 ?put81 ?next81; (case wt81 => rfl)) | (refine' grow_lit rfl ?wt81 ?run81 ?put81 ?next81; (case wt81 => rfl); (case run81 => (intro w' hS H; clear H; (obtain ⟨a0, a1, a2, -, -, -⟩ := (KA.out.keep hS).o3); (obtain ⟨b0, b1, b2, -, -, -⟩ := (KB.out.keep hS).o3); (obtain ⟨g0, g1, -, -⟩ := (KW.out.keep hS).o2); clear hS; go_simp; first | done | exact rfl)))); (case put81 => (simp only [Act.put, List.setIfInBounds_toArray, List.set_cons_zero, List.set_cons_succ]; first | done | exact rfl)); (case' next81 => skip)
  (refine' grow_callP (p := fun v w => TabV w v I O l) (hp := fun v w w' h hb => h.below hb) rfl Tryd.func12 (by kernel_rfl) rfl hGS rfl ?wt128 ?run128 ?put128 ?next128; (case wt128 => rfl); (case run128 => (intro w' hS H; exact (to_any I O _ l w' (by omega) (TL.out.below hS)).mono (fun e w2 ⟨v, h1, h2, h3⟩ => ⟨v, h1, h2, h3⟩))); (case put128 => (intro v; simp only [Act.put, List.setIfInBounds_toArray, List.set_cons_zero, List.set_cons_succ]; first | done | exact rfl)); (case' next128 => intro v21))
  (refine' grow_call (u := .bool true) rfl Tryd.func13 (by kernel_rfl) rfl hGS rfl ?wt129 ?run129 ?put129 ?next129; (case wt129 => rfl); (case run129 => (intro w' hS H; (have hv19 : TabV w' v19 I O l := H 19 (by decide)); (obtain ⟨uv19, rfl, hv19⟩ := hv19); (have hv21 : TabV w' v21 I O l := H 21 (by decide)); (obtain ⟨uv21, rfl, hv21⟩ := hv21); exact (tsame_any I O I O _ _ l l w' hv19 hv21).mono (fun e w2 h => ⟨h.1.trans (by simp), h.2⟩))); (case put129 => (simp only [Act.put, List.setIfInBounds_toArray, List.set_cons_zero, List.set_cons_succ]; first | done | exact rfl)); (case' next129 => skip))
  (first | (refine' grow_skip rfl ?wt82 ?put82 ?next82; (case wt82 => rfl)) | (refine' grow_lit rfl ?wt82 ?run82 ?put82 ?next82; (case wt82 => rfl); (case run82 => (intro w' hS H; clear H; (obtain ⟨a0, a1, a2, -, -, -⟩ := (KA.out.keep hS).o3); (obtain ⟨b0, b1, b2, -, -, -⟩ := (KB.out.keep hS).o3); (obtain ⟨g0, g1, -, -⟩ := (KW.out.keep hS).o2); clear hS; go_simp; first | done | exact rfl)))); (case put82 => (simp only [Act.put, List.setIfInBounds_toArray, List.set_cons_zero, List.set_cons_succ]; first | done | exact rfl)); (case' next82 => skip)
  (first | (refine' grow_skip rfl ?wt83 ?put83 ?next83; (case wt83 => rfl)) | (refine' grow_lit rfl ?wt83 ?run83 ?put83 ?next83; (case wt83 => rfl); (case run83 => (intro w' hS H; clear H; (obtain ⟨a0, a1, a2, -, -, -⟩ := (KA.out.keep hS).o3); (obtain ⟨b0, b1, b2, -, -, -⟩ := (KB.out.keep hS).o3); (obtain ⟨g0, g1, -, -⟩ := (KW.out.keep hS).o2); clear hS; go_simp; first | done | exact rfl)))); (case put83 => (simp only [Act.put, List.setIfInBounds_toArray, List.set_cons_zero, List.set_cons_succ]; first | done | exact rfl)); (case' next83 => skip)
  intro w' hS _
  have HF := Lib.hid (B0.out.trans (hS.mono B0.out.size))
  obtain ⟨g0, g1, -, -⟩ := (KW.out.keep hS).o2
  clear hS
  have hck' : ((chkT I O l).2 == 0) = false := by simpa using hck
  go_wp2_with fail
  go_ret
  exact ⟨rfl, HF.out⟩

set_option maxHeartbeats 4000000 in
set_option maxRecDepth 100000 in
theorem any_ok (v u : Value) (I O : Int) (ul : Value) (l : List Int) (J M : Int) (um : Value) (m : List Int) (x y c : Int) (w : World) (hg : ErrT w) (hv : TabIn w v I O ul l) (hu : TabIn w u J M um m) (h1 : l.length ≤ 600) (h2 : m.length ≤ 600) (hck : chkT I O l = (0, 0)) (c0 : -9223372036854775808 ≤ c) (c1 : c ≤ 9223372036854775807) :
    Calls Tryd.prog 3 #[v, u, .int .i64 x, .int .i64 y, .int .i64 c] w fun e w' => e = .returned (.bool true) ∧ Below w.heap.size w w' := by
  obtain ⟨rfl, hl, inl, hI, hO⟩ := hv
  obtain ⟨rfl, hm, inm, hJ, hM⟩ := hu
  obtain ⟨lq, lc, rfl⟩ := hl.shape
  obtain ⟨mq, mc, rfl⟩ := hm.shape
  have d1 : decide ((600 : Int) < (l.length : Int)) = false := by simp; omega
  have d2 : decide ((600 : Int) < (m.length : Int)) = false := by simp; omega
  obtain ⟨q0, q1, q2, q3, hn, -⟩ := chkT_ok (I := I) (O := O) (l := l) (by rw [hck])
  have HN := Lib.hid hn
  have HS4 := Lib.hid (And.intro q0 (And.intro q1 (And.intro q2 q3)))
  have HCK := Lib.hid hck
  clear hn q0 q1 q2 q3 hck
  go_enter Tryd.func3, Tryd.ntmps3
  go_wp2_with fail
  obtain ⟨W0, hW0⟩ := named ((w.alloc (.cells #[.int .i64 I, .int .i64 O, .slice lq l.length lc] 24)).alloc (.cells #[.int .i64 J, .int .i64 M, .slice mq m.length mc] 24))
  rw [← hW0]
  have hc0 : Below w.heap.size w W0 := by rw [hW0]; exact below_alloc2 _ _
  have B0 := Lib.hid hc0
  have KA : Hid (Blk W0 (w.heap.size) #[.int .i64 I, .int .i64 O, .slice lq l.length lc] 24) := by rw [hW0]; exact Lib.hid ((Blk.new _ _ _ _ rfl).old _)
  have KB : Hid (Blk W0 (w.heap.size + 1) #[.int .i64 J, .int .i64 M, .slice mq m.length mc] 24) := by rw [hW0]; exact Lib.hid (Blk.new _ _ _ _ (by simp))
  have TL := Lib.hid (hl.below hc0)
  have TM := Lib.hid (hm.below hc0)
  have HG := Lib.hid (hg.keep hc0)
  clear hc0 hW0 hl hm hg
  refine (known2_any _ HG.out).mono ?_
  rintro e w1 ⟨rfl, hb⟩
  obtain ⟨p0, p1, p2, -, -, -⟩ := (KA.out.keep hb).o3
  obtain ⟨r0, r1, r2, -, -, -⟩ := (KB.out.keep hb).o3
  go_wp2_with fail
  clear p0 p1 p2 r0 r1 r2
  have hd1 : Below W0.heap.size W0 w1 := hb
  have KA_ := Lib.hid (KA.out.keep hd1)
  have KB_ := Lib.hid (KB.out.keep hd1)
  have TL_ := Lib.hid (TL.out.below hd1)
  have TM_ := Lib.hid (TM.out.below hd1)
  have HG_ := Lib.hid (HG.out.keep hd1)
  clear KA KB TL TM HG
  have KA := KA_
  have KB := KB_
  have TL := TL_
  have TM := TM_
  have HG := HG_
  clear KA_ KB_ TL_ TM_ HG_
  have B1 : Hid (Below w.heap.size w w1) := Lib.hid (B0.out.trans (hd1.mono B0.out.size))
  clear B0
  have B0 := B1
  clear B1
  clear hb hd1 
  refine (rcheck_any I O _ l _ TL.out inl).mono ?_
  rintro e w2 ⟨wv, rfl, hW, hb⟩
  obtain ⟨gq, gn, gc, rfl⟩ := hW.shape
  go_wp2_with fail
  obtain ⟨W2, hW2⟩ := named (w2.alloc (.cells #[.slice gq gn gc, .int .i64 (chkT I O l).2] 28))
  rw [← hW2]
  have hc2 : Below w2.heap.size w2 W2 := by rw [hW2]; exact below_alloc1 _
  have hd2 : Below w1.heap.size w1 W2 := hb.trans (hc2.mono hb.size)
  have KA_ := Lib.hid (KA.out.keep hd2)
  have KB_ := Lib.hid (KB.out.keep hd2)
  have TL_ := Lib.hid (TL.out.below hd2)
  have TM_ := Lib.hid (TM.out.below hd2)
  have HG_ := Lib.hid (HG.out.keep hd2)
  clear KA KB TL TM HG
  have KA := KA_
  have KB := KB_
  have TL := TL_
  have TM := TM_
  have HG := HG_
  clear KA_ KB_ TL_ TM_ HG_
  have B1 : Hid (Below w.heap.size w W2) := Lib.hid (B0.out.trans (hd2.mono B0.out.size))
  clear B0
  have B0 := B1
  clear B1
  have KW : Hid (Blk W2 (w2.heap.size) #[.slice gq gn gc, .int .i64 (chkT I O l).2] 28) := by rw [hW2]; exact Lib.hid (Blk.new _ _ _ _ rfl)
  have WG := Lib.hid (hW.below hc2)
  clear hb hW hd2 hc2 hW2 
  have hGS : Grows (fun w' => Below W2.heap.size W2 w') := Grows.below W2
  refine' wp_growL _ (fun w' => Below W2.heap.size W2 w') [[], [0], [1], [], [2, 3], [4], [5], [6], [6, 7], [6], [6, 9], [6, 8, 10], [6], [6], [6, 12, 13], [6, 11, 14], [6, 15], [16], [17], [17, 18], [17], [17, 20], [17, 19, 21], [17, 22], [17, 23]] (Fact.lit _ :: Fact.prop _ _ :: Fact.prop _ _ :: Fact.lit _ :: Fact.lit _ :: Fact.lit _ :: Fact.lit _ :: Fact.lit _ :: Fact.prop _ _ :: Fact.lit _ :: Fact.prop _ _ :: Fact.lit _ :: Fact.lit _ :: Fact.lit _ :: Fact.lit _ :: Fact.lit _ :: Fact.lit _ :: Fact.lit _ :: Fact.lit _ :: Fact.prop _ _ :: Fact.lit _ :: Fact.prop _ _ :: Fact.lit _ :: Fact.lit _ :: Fact.lit _ :: []) (by kernel_rfl) rfl (by kernel_rfl) (Below.refl _ _).drew ?seqsix
  case' seqsix => skip
  (first | (refine' grow_skip rfl ?wt84 ?put84 ?next84; (case wt84 => rfl)) | (refine' grow_lit rfl ?wt84 ?run84 ?put84 ?next84; (case wt84 => rfl); (case run84 => (intro w' hS H; clear H; (obtain ⟨a0, a1, a2, -, -, -⟩ := (KA.out.keep hS).o3); (obtain ⟨b0, b1, b2, -, -, -⟩ := (KB.out.keep hS).o3); (obtain ⟨g0, g1, -, -⟩ := (KW.out.keep hS).o2); clear hS; go_simp; first | done | exact rfl)))); (case put84 => (simp only [Act.put, List.setIfInBounds_toArray, List.set_cons_zero, List.set_cons_succ]; first | done | exact rfl)); (case' next84 => skip)
  (refine' grow_callP (p := fun v w => TabV w v I O l) (hp := fun v w w' h hb => h.below hb) rfl Tryd.func12 (by kernel_rfl) rfl hGS rfl ?wt130 ?run130 ?put130 ?next130; (case wt130 => rfl); (case run130 => (intro w' hS H; exact (to_any I O _ l w' (by omega) (TL.out.below hS)).mono (fun e w2 ⟨v, h1, h2, h3⟩ => ⟨v, h1, h2, h3⟩))); (case put130 => (intro v; simp only [Act.put, List.setIfInBounds_toArray, List.set_cons_zero, List.set_cons_succ]; first | done | exact rfl)); (case' next130 => intro v1))
  (refine' grow_callP (p := fun v w => FaultV w v (turnW (chkT I O l)) (chkT I O l).2) (hp := fun v w w' h hb => h.below hb) rfl Tryd.func11 (by kernel_rfl) rfl hGS rfl ?wt131 ?run131 ?put131 ?next131; (case wt131 => rfl); (case run131 => (intro w' hS H; (have hv1 : TabV w' v1 I O l := H 1 (by decide)); (obtain ⟨uv1, rfl, hv1⟩ := hv1); exact (tcheck_any I O _ l w' hv1 inl).mono (fun e w2 ⟨v, h1, h2, h3⟩ => ⟨v, h1, h2, h3⟩))); (case put131 => (intro v; simp only [Act.put, List.setIfInBounds_toArray, List.set_cons_zero, List.set_cons_succ]; first | done | exact rfl)); (case' next131 => intro v2))
  (first | (refine' grow_skip rfl ?wt85 ?put85 ?next85; (case wt85 => rfl)) | (refine' grow_lit rfl ?wt85 ?run85 ?put85 ?next85; (case wt85 => rfl); (case run85 => (intro w' hS H; clear H; (obtain ⟨a0, a1, a2, -, -, -⟩ := (KA.out.keep hS).o3); (obtain ⟨b0, b1, b2, -, -, -⟩ := (KB.out.keep hS).o3); (obtain ⟨g0, g1, -, -⟩ := (KW.out.keep hS).o2); clear hS; go_simp; first | done | exact rfl)))); (case put85 => (simp only [Act.put, List.setIfInBounds_toArray, List.set_cons_zero, List.set_cons_succ]; first | done | exact rfl)); (case' next85 => skip)
  (refine' grow_call (u := .bool true) rfl Tryd.func10 (by kernel_rfl) rfl hGS rfl ?wt132 ?run132 ?put132 ?next132; (case wt132 => rfl); (case run132 => (intro w' hS H; exact tells_post _ _ (turnW (chkT I O l)) (chkT I O l).2 w' (HG.out.keep hS) (H 2 (by decide)) (WG.out.below hS) (turnW_or _))); (case put132 => (simp only [Act.put, List.setIfInBounds_toArray, List.set_cons_zero, List.set_cons_succ]; first | done | exact rfl)); (case' next132 => skip))
  (first | (refine' grow_skip rfl ?wt86 ?put86 ?next86; (case wt86 => rfl)) | (refine' grow_lit rfl ?wt86 ?run86 ?put86 ?next86; (case wt86 => rfl); (case run86 => (intro w' hS H; clear H; (obtain ⟨a0, a1, a2, -, -, -⟩ := (KA.out.keep hS).o3); (obtain ⟨b0, b1, b2, -, -, -⟩ := (KB.out.keep hS).o3); (obtain ⟨g0, g1, -, -⟩ := (KW.out.keep hS).o2); clear hS; go_simp; first | done | exact rfl)))); (case put86 => (simp only [Act.put, List.setIfInBounds_toArray, List.set_cons_zero, List.set_cons_succ]; first | done | exact rfl)); (case' next86 => skip)
  (first | (refine' grow_skip rfl ?wt87 ?put87 ?next87; (case wt87 => rfl)) | (refine' grow_lit rfl ?wt87 ?run87 ?put87 ?next87; (case wt87 => rfl); (case run87 => (intro w' hS H; clear H; (obtain ⟨a0, a1, a2, -, -, -⟩ := (KA.out.keep hS).o3); (obtain ⟨b0, b1, b2, -, -, -⟩ := (KB.out.keep hS).o3); (obtain ⟨g0, g1, -, -⟩ := (KW.out.keep hS).o2); clear hS; go_simp; first | done | exact rfl)))); (case put87 => (simp only [Act.put, List.setIfInBounds_toArray, List.set_cons_zero, List.set_cons_succ]; first | done | exact rfl)); (case' next87 => skip)
  (first | (refine' grow_skip rfl ?wt88 ?put88 ?next88; (case wt88 => rfl)) | (refine' grow_lit rfl ?wt88 ?run88 ?put88 ?next88; (case wt88 => rfl); (case run88 => (intro w' hS H; clear H; (obtain ⟨a0, a1, a2, -, -, -⟩ := (KA.out.keep hS).o3); (obtain ⟨b0, b1, b2, -, -, -⟩ := (KB.out.keep hS).o3); (obtain ⟨g0, g1, -, -⟩ := (KW.out.keep hS).o2); clear hS; go_simp; first | done | exact rfl)))); (case put88 => (simp only [Act.put, List.setIfInBounds_toArray, List.set_cons_zero, List.set_cons_succ]; first | done | exact rfl)); (case' next88 => skip)
  (refine' grow_callP (p := fun v w => TabV w v I O l) (hp := fun v w w' h hb => h.below hb) rfl Tryd.func12 (by kernel_rfl) rfl hGS rfl ?wt133 ?run133 ?put133 ?next133; (case wt133 => rfl); (case run133 => (intro w' hS H; exact (to_any I O _ l w' (by omega) (TL.out.below hS)).mono (fun e w2 ⟨v, h1, h2, h3⟩ => ⟨v, h1, h2, h3⟩))); (case put133 => (intro v; simp only [Act.put, List.setIfInBounds_toArray, List.set_cons_zero, List.set_cons_succ]; first | done | exact rfl)); (case' next133 => intro v8))
  (first | (refine' grow_skip rfl ?wt89 ?put89 ?next89; (case wt89 => rfl)) | (refine' grow_lit rfl ?wt89 ?run89 ?put89 ?next89; (case wt89 => rfl); (case run89 => (intro w' hS H; clear H; (obtain ⟨a0, a1, a2, -, -, -⟩ := (KA.out.keep hS).o3); (obtain ⟨b0, b1, b2, -, -, -⟩ := (KB.out.keep hS).o3); (obtain ⟨g0, g1, -, -⟩ := (KW.out.keep hS).o2); clear hS; go_simp; first | done | exact rfl)))); (case put89 => (simp only [Act.put, List.setIfInBounds_toArray, List.set_cons_zero, List.set_cons_succ]; first | done | exact rfl)); (case' next89 => skip)
  (refine' grow_callP (p := fun v w => TabV w v J M m) (hp := fun v w w' h hb => h.below hb) rfl Tryd.func12 (by kernel_rfl) rfl hGS rfl ?wt134 ?run134 ?put134 ?next134; (case wt134 => rfl); (case run134 => (intro w' hS H; exact (to_any J M _ m w' (by omega) (TM.out.below hS)).mono (fun e w2 ⟨v, h1, h2, h3⟩ => ⟨v, h1, h2, h3⟩))); (case put134 => (intro v; simp only [Act.put, List.setIfInBounds_toArray, List.set_cons_zero, List.set_cons_succ]; first | done | exact rfl)); (case' next134 => intro v10))
  (refine' grow_call (u := .bool (decide (I = J ∧ O = M ∧ l = m))) rfl Tryd.func13 (by kernel_rfl) rfl hGS rfl ?wt135 ?run135 ?put135 ?next135; (case wt135 => rfl); (case run135 => (intro w' hS H; (have hv8 : TabV w' v8 I O l := H 8 (by decide)); (obtain ⟨uv8, rfl, hv8⟩ := hv8); (have hv10 : TabV w' v10 J M m := H 10 (by decide)); (obtain ⟨uv10, rfl, hv10⟩ := hv10); exact tsame_any I O J M _ _ l m w' hv8 hv10)); (case put135 => (simp only [Act.put, List.setIfInBounds_toArray, List.set_cons_zero, List.set_cons_succ]; first | done | exact rfl)); (case' next135 => skip))
  (first | (refine' grow_skip rfl ?wt90 ?put90 ?next90; (case wt90 => rfl)) | (refine' grow_lit rfl ?wt90 ?run90 ?put90 ?next90; (case wt90 => rfl); (case run90 => (intro w' hS H; clear H; (obtain ⟨a0, a1, a2, -, -, -⟩ := (KA.out.keep hS).o3); (obtain ⟨b0, b1, b2, -, -, -⟩ := (KB.out.keep hS).o3); (obtain ⟨g0, g1, -, -⟩ := (KW.out.keep hS).o2); clear hS; go_simp; first | done | exact rfl)))); (case put90 => (simp only [Act.put, List.setIfInBounds_toArray, List.set_cons_zero, List.set_cons_succ]; first | done | exact rfl)); (case' next90 => skip)
  (first | (refine' grow_skip rfl ?wt91 ?put91 ?next91; (case wt91 => rfl)) | (refine' grow_lit rfl ?wt91 ?run91 ?put91 ?next91; (case wt91 => rfl); (case run91 => (intro w' hS H; clear H; (obtain ⟨a0, a1, a2, -, -, -⟩ := (KA.out.keep hS).o3); (obtain ⟨b0, b1, b2, -, -, -⟩ := (KB.out.keep hS).o3); (obtain ⟨g0, g1, -, -⟩ := (KW.out.keep hS).o2); clear hS; go_simp; first | done | exact rfl)))); (case put91 => (simp only [Act.put, List.setIfInBounds_toArray, List.set_cons_zero, List.set_cons_succ]; first | done | exact rfl)); (case' next91 => skip)
  (refine' grow_call (u := .bool (decide (I = J ∧ O = M ∧ l = m))) rfl Tryd.func14 (by kernel_rfl) rfl hGS rfl ?wt136 ?run136 ?put136 ?next136; (case wt136 => rfl); (case run136 => (intro w' hS H; exact rsame_any I O J M _ _ l m w' (TL.out.below hS) (TM.out.below hS))); (case put136 => (simp only [Act.put, List.setIfInBounds_toArray, List.set_cons_zero, List.set_cons_succ]; first | done | exact rfl)); (case' next136 => skip))
  (first | (refine' grow_skip rfl ?wt92 ?put92 ?next92; (case wt92 => rfl)) | (refine' grow_lit rfl ?wt92 ?run92 ?put92 ?next92; (case wt92 => rfl); (case run92 => (intro w' hS H; clear H; (obtain ⟨a0, a1, a2, -, -, -⟩ := (KA.out.keep hS).o3); (obtain ⟨b0, b1, b2, -, -, -⟩ := (KB.out.keep hS).o3); (obtain ⟨g0, g1, -, -⟩ := (KW.out.keep hS).o2); clear hS; go_simp; first | done | exact rfl)))); (case put92 => (simp only [Act.put, List.setIfInBounds_toArray, List.set_cons_zero, List.set_cons_succ]; first | done | exact rfl)); (case' next92 => skip)
  (first | (refine' grow_skip rfl ?wt93 ?put93 ?next93; (case wt93 => rfl)) | (refine' grow_lit rfl ?wt93 ?run93 ?put93 ?next93; (case wt93 => rfl); (case run93 => (intro w' hS H; clear H; (obtain ⟨a0, a1, a2, -, -, -⟩ := (KA.out.keep hS).o3); (obtain ⟨b0, b1, b2, -, -, -⟩ := (KB.out.keep hS).o3); (obtain ⟨g0, g1, -, -⟩ := (KW.out.keep hS).o2); clear hS; go_simp; first | done | exact rfl)))); (case put93 => (simp only [Act.put, List.setIfInBounds_toArray, List.set_cons_zero, List.set_cons_succ]; first | done | exact rfl)); (case' next93 => skip)
  (first | (refine' grow_skip rfl ?wt94 ?put94 ?next94; (case wt94 => rfl)) | (refine' grow_lit rfl ?wt94 ?run94 ?put94 ?next94; (case wt94 => rfl); (case run94 => (intro w' hS H; clear H; (obtain ⟨a0, a1, a2, -, -, -⟩ := (KA.out.keep hS).o3); (obtain ⟨b0, b1, b2, -, -, -⟩ := (KB.out.keep hS).o3); (obtain ⟨g0, g1, -, -⟩ := (KW.out.keep hS).o2); clear hS; go_simp; first | done | exact rfl)))); (case put94 => (simp only [Act.put, List.setIfInBounds_toArray, List.set_cons_zero, List.set_cons_succ]; first | done | exact rfl)); (case' next94 => skip)
  (first | (refine' grow_skip rfl ?wt95 ?put95 ?next95; (case wt95 => rfl)) | (refine' grow_lit rfl ?wt95 ?run95 ?put95 ?next95; (case wt95 => rfl); (case run95 => (intro w' hS H; clear H; (obtain ⟨a0, a1, a2, -, -, -⟩ := (KA.out.keep hS).o3); (obtain ⟨b0, b1, b2, -, -, -⟩ := (KB.out.keep hS).o3); (obtain ⟨g0, g1, -, -⟩ := (KW.out.keep hS).o2); clear hS; go_simp; first | done | exact rfl)))); (case put95 => (simp only [Act.put, List.setIfInBounds_toArray, List.set_cons_zero, List.set_cons_succ]; first | done | exact rfl)); (case' next95 => skip)
  (refine' grow_callP (p := fun v w => TabV w v I O l) (hp := fun v w w' h hb => h.below hb) rfl Tryd.func12 (by kernel_rfl) rfl hGS rfl ?wt137 ?run137 ?put137 ?next137; (case wt137 => rfl); (case run137 => (intro w' hS H; exact (to_any I O _ l w' (by omega) (TL.out.below hS)).mono (fun e w2 ⟨v, h1, h2, h3⟩ => ⟨v, h1, h2, h3⟩))); (case put137 => (intro v; simp only [Act.put, List.setIfInBounds_toArray, List.set_cons_zero, List.set_cons_succ]; first | done | exact rfl)); (case' next137 => intro v19))
  (first | (refine' grow_skip rfl ?wt96 ?put96 ?next96; (case wt96 => rfl)) | (refine' grow_lit rfl ?wt96 ?run96 ?put96 ?next96; (case wt96 => rfl); (case run96 => (intro w' hS H; clear H; (obtain ⟨a0, a1, a2, -, -, -⟩ := (KA.out.keep hS).o3); (obtain ⟨b0, b1, b2, -, -, -⟩ := (KB.out.keep hS).o3); (obtain ⟨g0, g1, -, -⟩ := (KW.out.keep hS).o2); clear hS; go_simp; first | done | exact rfl)))); (case put96 => (simp only [Act.put, List.setIfInBounds_toArray, List.set_cons_zero, List.set_cons_succ]; first | done | exact rfl)); (case' next96 => skip)
  (refine' grow_callP (p := fun v w => TabV w v I O l) (hp := fun v w w' h hb => h.below hb) rfl Tryd.func12 (by kernel_rfl) rfl hGS rfl ?wt138 ?run138 ?put138 ?next138; (case wt138 => rfl); (case run138 => (intro w' hS H; exact (to_any I O _ l w' (by omega) (TL.out.below hS)).mono (fun e w2 ⟨v, h1, h2, h3⟩ => ⟨v, h1, h2, h3⟩))); (case put138 => (intro v; simp only [Act.put, List.setIfInBounds_toArray, List.set_cons_zero, List.set_cons_succ]; first | done | exact rfl)); (case' next138 => intro v21))
  (refine' grow_call (u := .bool true) rfl Tryd.func13 (by kernel_rfl) rfl hGS rfl ?wt139 ?run139 ?put139 ?next139; (case wt139 => rfl); (case run139 => (intro w' hS H; (have hv19 : TabV w' v19 I O l := H 19 (by decide)); (obtain ⟨uv19, rfl, hv19⟩ := hv19); (have hv21 : TabV w' v21 I O l := H 21 (by decide)); (obtain ⟨uv21, rfl, hv21⟩ := hv21); exact (tsame_any I O I O _ _ l l w' hv19 hv21).mono (fun e w2 h => ⟨h.1.trans (by simp), h.2⟩))); (case put139 => (simp only [Act.put, List.setIfInBounds_toArray, List.set_cons_zero, List.set_cons_succ]; first | done | exact rfl)); (case' next139 => skip))
  (first | (refine' grow_skip rfl ?wt97 ?put97 ?next97; (case wt97 => rfl)) | (refine' grow_lit rfl ?wt97 ?run97 ?put97 ?next97; (case wt97 => rfl); (case run97 => (intro w' hS H; clear H; (obtain ⟨a0, a1, a2, -, -, -⟩ := (KA.out.keep hS).o3); (obtain ⟨b0, b1, b2, -, -, -⟩ := (KB.out.keep hS).o3); (obtain ⟨g0, g1, -, -⟩ := (KW.out.keep hS).o2); clear hS; go_simp; first | done | exact rfl)))); (case put97 => (simp only [Act.put, List.setIfInBounds_toArray, List.set_cons_zero, List.set_cons_succ]; first | done | exact rfl)); (case' next97 => skip)
  (first | (refine' grow_skip rfl ?wt98 ?put98 ?next98; (case wt98 => rfl)) | (refine' grow_lit rfl ?wt98 ?run98 ?put98 ?next98; (case wt98 => rfl); (case run98 => (intro w' hS H; clear H; (obtain ⟨a0, a1, a2, -, -, -⟩ := (KA.out.keep hS).o3); (obtain ⟨b0, b1, b2, -, -, -⟩ := (KB.out.keep hS).o3); (obtain ⟨g0, g1, -, -⟩ := (KW.out.keep hS).o2); clear hS; go_simp; first | done | exact rfl)))); (case put98 => (simp only [Act.put, List.setIfInBounds_toArray, List.set_cons_zero, List.set_cons_succ]; first | done | exact rfl)); (case' next98 => skip)
  intro w9 hb _
  have hd_ : Below W2.heap.size W2 w9 := hb
  have KA_ := Lib.hid (KA.out.keep hd_)
  have KB_ := Lib.hid (KB.out.keep hd_)
  have TL_ := Lib.hid (TL.out.below hd_)
  have TM_ := Lib.hid (TM.out.below hd_)
  have HG_ := Lib.hid (HG.out.keep hd_)
  have KW_ := Lib.hid (KW.out.keep hd_)
  have WG_ := Lib.hid (WG.out.below hd_)
  have B1 : Hid (Below w.heap.size w w9) := Lib.hid (B0.out.trans (hd_.mono B0.out.size))
  clear hb hd_ B0 KA KB TL TM HG KW WG
  have KA := KA_
  have KB := KB_
  have TL := TL_
  have TM := TM_
  have HG := HG_
  have KW := KW_
  have WG := WG_
  have B0 := B1
  clear B1 KA_ KB_ TL_ TM_ HG_ KW_ WG_
  obtain ⟨a0, a1, a2, -, -, -⟩ := KA.out.o3
  obtain ⟨g0, g1, -, -⟩ := KW.out.o2
  rw [HCK.out] at g1
  go_wp2_with fail
  clear a0 a1 a2 g0 g1
  refine (to_any I O _ l _ (by omega) TL.out).mono ?_
  rintro e w10 ⟨tv, rfl, ⟨tu, rfl, hT⟩, hb⟩
  obtain ⟨tq, tc, rfl⟩ := hT.shape
  go_wp2_with fail
  have hd10 : Below w9.heap.size w9 w10 := hb
  have KA_ := Lib.hid (KA.out.keep hd10)
  have KB_ := Lib.hid (KB.out.keep hd10)
  have TL_ := Lib.hid (TL.out.below hd10)
  have TM_ := Lib.hid (TM.out.below hd10)
  have HG_ := Lib.hid (HG.out.keep hd10)
  have KW_ := Lib.hid (KW.out.keep hd10)
  have WG_ := Lib.hid (WG.out.below hd10)
  clear KA KB TL TM HG KW WG
  have KA := KA_
  have KB := KB_
  have TL := TL_
  have TM := TM_
  have HG := HG_
  have KW := KW_
  have WG := WG_
  clear KA_ KB_ TL_ TM_ HG_ KW_ WG_
  have B1 : Hid (Below w.heap.size w w10) := Lib.hid (B0.out.trans (hd10.mono B0.out.size))
  clear B0
  have B0 := B1
  clear B1
  have TT := Lib.hid (hT)
  clear hb hT hd10 
  refine (twith_any I O _ l x y c _ HCK.out TT.out inl c0 c1).mono ?_
  rintro e w11 ⟨tv, ev, rfl, ⟨xu, rfl, hT⟩, hF, hb⟩
  obtain ⟨xq, xc, rfl⟩ := hT.shape
  obtain ⟨a0, a1, a2, -, -, -⟩ := ((KA.out.keep hb).old (.cells #[.int .i64 (withT I O l x y c).1, .int .i64 (withT I O l x y c).2.1, .slice xq (withT I O l x y c).2.2.length xc] 34)).o3
  go_wp2_with fail
  clear a0 a1 a2
  obtain ⟨W11, hW11⟩ := named (w11.alloc (.cells #[.int .i64 (withT I O l x y c).1, .int .i64 (withT I O l x y c).2.1, .slice xq (withT I O l x y c).2.2.length xc] 34))
  rw [← hW11]
  have hc11 : Below w11.heap.size w11 W11 := by rw [hW11]; exact below_alloc1 _
  have hd11 : Below w10.heap.size w10 W11 := hb.trans (hc11.mono hb.size)
  have KA_ := Lib.hid (KA.out.keep hd11)
  have KB_ := Lib.hid (KB.out.keep hd11)
  have TL_ := Lib.hid (TL.out.below hd11)
  have TM_ := Lib.hid (TM.out.below hd11)
  have HG_ := Lib.hid (HG.out.keep hd11)
  have KW_ := Lib.hid (KW.out.keep hd11)
  have WG_ := Lib.hid (WG.out.below hd11)
  have TT_ := Lib.hid (TT.out.below hd11)
  clear KA KB TL TM HG KW WG TT
  have KA := KA_
  have KB := KB_
  have TL := TL_
  have TM := TM_
  have HG := HG_
  have KW := KW_
  have WG := WG_
  have TT := TT_
  clear KA_ KB_ TL_ TM_ HG_ KW_ WG_ TT_
  have B1 : Hid (Below w.heap.size w W11) := Lib.hid (B0.out.trans (hd11.mono B0.out.size))
  clear B0
  have B0 := B1
  clear B1
  have KX : Hid (Blk W11 (w11.heap.size) #[.int .i64 (withT I O l x y c).1, .int .i64 (withT I O l x y c).2.1, .slice xq (withT I O l x y c).2.2.length xc] 34) := by rw [hW11]; exact Lib.hid (Blk.new _ _ _ _ rfl)
  have TX := Lib.hid (hT.below hc11)
  have FX := Lib.hid (hF.below hc11)
  clear hb hT hF hd11 hc11 hW11 
  refine (rwith_any I O _ l x y c _ HS4.out HN.out TL.out c0 c1).mono ?_
  rintro e w12 ⟨tv, wv, rfl, ⟨yu, rfl, hT⟩, hW, hb⟩
  obtain ⟨yq, yc, rfl⟩ := hT.shape
  obtain ⟨fq, fn, fc, rfl⟩ := hW.shape
  go_wp2_with fail
  obtain ⟨W12, hW12⟩ := named ((w12.alloc (.cells #[.int .i64 (withT I O l x y c).1, .int .i64 (withT I O l x y c).2.1, .slice yq (withT I O l x y c).2.2.length yc] 24)).alloc (.cells #[.slice fq fn fc, .int .i64 (withW I O x y c).2] 28))
  rw [← hW12]
  have hc12 : Below w12.heap.size w12 W12 := by rw [hW12]; exact below_alloc2 _ _
  have hd12 : Below W11.heap.size W11 W12 := hb.trans (hc12.mono hb.size)
  have KA_ := Lib.hid (KA.out.keep hd12)
  have KB_ := Lib.hid (KB.out.keep hd12)
  have TL_ := Lib.hid (TL.out.below hd12)
  have TM_ := Lib.hid (TM.out.below hd12)
  have HG_ := Lib.hid (HG.out.keep hd12)
  have KW_ := Lib.hid (KW.out.keep hd12)
  have WG_ := Lib.hid (WG.out.below hd12)
  have TT_ := Lib.hid (TT.out.below hd12)
  have KX_ := Lib.hid (KX.out.keep hd12)
  have TX_ := Lib.hid (TX.out.below hd12)
  have FX_ := Lib.hid (FX.out.below hd12)
  clear KA KB TL TM HG KW WG TT KX TX FX
  have KA := KA_
  have KB := KB_
  have TL := TL_
  have TM := TM_
  have HG := HG_
  have KW := KW_
  have WG := WG_
  have TT := TT_
  have KX := KX_
  have TX := TX_
  have FX := FX_
  clear KA_ KB_ TL_ TM_ HG_ KW_ WG_ TT_ KX_ TX_ FX_
  have B1 : Hid (Below w.heap.size w W12) := Lib.hid (B0.out.trans (hd12.mono B0.out.size))
  clear B0
  have B0 := B1
  clear B1
  have KY : Hid (Blk W12 (w12.heap.size) #[.int .i64 (withT I O l x y c).1, .int .i64 (withT I O l x y c).2.1, .slice yq (withT I O l x y c).2.2.length yc] 24) := by rw [hW12]; exact Lib.hid ((Blk.new _ _ _ _ rfl).old _)
  have KF : Hid (Blk W12 (w12.heap.size + 1) #[.slice fq fn fc, .int .i64 (withW I O x y c).2] 28) := by rw [hW12]; exact Lib.hid (Blk.new _ _ _ _ (by simp))
  have TY := Lib.hid (hT.below hc12)
  have WF := Lib.hid (hW.below hc12)
  clear hb hT hW hd12 hc12 hW12 
  have hGS : Grows (fun w' => Below W12.heap.size W12 w') := Grows.below W12
  refine' wp_growL _ (fun w' => Below W12.heap.size W12 w') [[], [0], [], [], [1, 2, 3], [], [], [], [5, 6, 7], [4, 8], [9], [10], [10, 11], [10, 12], [10], [10, 14], [10, 13, 15], [10, 16], [17], [18], [18], [18, 19, 20], [18, 21], [22], [23], [23, 24], [23], [23, 25, 26], [23, 27], [28]] (Fact.lit _ :: Fact.prop _ _ :: Fact.lit _ :: Fact.lit _ :: Fact.lit _ :: Fact.lit _ :: Fact.lit _ :: Fact.lit _ :: Fact.lit _ :: Fact.lit _ :: Fact.lit _ :: Fact.lit _ :: Fact.prop _ _ :: Fact.lit _ :: Fact.lit _ :: Fact.lit _ :: Fact.lit _ :: Fact.lit _ :: Fact.lit _ :: Fact.lit _ :: Fact.lit _ :: Fact.lit _ :: Fact.lit _ :: Fact.lit _ :: Fact.lit _ :: Fact.prop _ _ :: Fact.lit _ :: Fact.lit _ :: Fact.lit _ :: Fact.lit _ :: []) (by kernel_rfl) rfl (by kernel_rfl) (Below.refl _ _).drew ?seqtwelve
  case' seqtwelve => skip
  (first | (refine' grow_skip rfl ?wt99 ?put99 ?next99; (case wt99 => rfl)) | (refine' grow_lit rfl ?wt99 ?run99 ?put99 ?next99; (case wt99 => rfl); (case run99 => (intro w' hS H; clear H; (obtain ⟨a0, a1, a2, -, -, -⟩ := (KA.out.keep hS).o3); (obtain ⟨b0, b1, b2, -, -, -⟩ := (KX.out.keep hS).o3); (obtain ⟨y0, y1, y2, -, -, -⟩ := (KY.out.keep hS).o3); (obtain ⟨g0, g1, -, -⟩ := (KF.out.keep hS).o2); clear hS; go_simp; first | done | exact rfl)))); (case put99 => (simp only [Act.put, List.setIfInBounds_toArray, List.set_cons_zero, List.set_cons_succ]; first | done | exact rfl)); (case' next99 => skip)
  (refine' grow_callP (p := fun v w => TabV w v I O l) (hp := fun v w w' h hb => h.below hb) rfl Tryd.func12 (by kernel_rfl) rfl hGS rfl ?wt140 ?run140 ?put140 ?next140; (case wt140 => rfl); (case run140 => (intro w' hS H; exact (to_any I O _ l w' (by omega) (TL.out.below hS)).mono (fun e w2 ⟨v, h1, h2, h3⟩ => ⟨v, h1, h2, h3⟩))); (case put140 => (intro v; simp only [Act.put, List.setIfInBounds_toArray, List.set_cons_zero, List.set_cons_succ]; first | done | exact rfl)); (case' next140 => intro v1))
  (first | (refine' grow_skip rfl ?wt100 ?put100 ?next100; (case wt100 => rfl)) | (refine' grow_lit rfl ?wt100 ?run100 ?put100 ?next100; (case wt100 => rfl); (case run100 => (intro w' hS H; clear H; (obtain ⟨a0, a1, a2, -, -, -⟩ := (KA.out.keep hS).o3); (obtain ⟨b0, b1, b2, -, -, -⟩ := (KX.out.keep hS).o3); (obtain ⟨y0, y1, y2, -, -, -⟩ := (KY.out.keep hS).o3); (obtain ⟨g0, g1, -, -⟩ := (KF.out.keep hS).o2); clear hS; go_simp; first | done | exact rfl)))); (case put100 => (simp only [Act.put, List.setIfInBounds_toArray, List.set_cons_zero, List.set_cons_succ]; first | done | exact rfl)); (case' next100 => skip)
  (first | (refine' grow_skip rfl ?wt101 ?put101 ?next101; (case wt101 => rfl)) | (refine' grow_lit rfl ?wt101 ?run101 ?put101 ?next101; (case wt101 => rfl); (case run101 => (intro w' hS H; clear H; (obtain ⟨a0, a1, a2, -, -, -⟩ := (KA.out.keep hS).o3); (obtain ⟨b0, b1, b2, -, -, -⟩ := (KX.out.keep hS).o3); (obtain ⟨y0, y1, y2, -, -, -⟩ := (KY.out.keep hS).o3); (obtain ⟨g0, g1, -, -⟩ := (KF.out.keep hS).o2); clear hS; go_simp; first | done | exact rfl)))); (case put101 => (simp only [Act.put, List.setIfInBounds_toArray, List.set_cons_zero, List.set_cons_succ]; first | done | exact rfl)); (case' next101 => skip)
  (refine' grow_call (u := .int .i64 (turnAt I O l x y)) rfl Tryd.func17 (by kernel_rfl) rfl hGS rfl ?wt141 ?run141 ?put141 ?next141; (case wt141 => rfl); (case run141 => (intro w' hS H; (have hv1 : TabV w' v1 I O l := H 1 (by decide)); (obtain ⟨uv1, rfl, hv1⟩ := hv1); exact tat_any I O _ l x y w' HS4.out HN.out hv1)); (case put141 => (simp only [Act.put, List.setIfInBounds_toArray, List.set_cons_zero, List.set_cons_succ]; first | done | exact rfl)); (case' next141 => skip))
  (first | (refine' grow_skip rfl ?wt102 ?put102 ?next102; (case wt102 => rfl)) | (refine' grow_lit rfl ?wt102 ?run102 ?put102 ?next102; (case wt102 => rfl); (case run102 => (intro w' hS H; clear H; (obtain ⟨a0, a1, a2, -, -, -⟩ := (KA.out.keep hS).o3); (obtain ⟨b0, b1, b2, -, -, -⟩ := (KX.out.keep hS).o3); (obtain ⟨y0, y1, y2, -, -, -⟩ := (KY.out.keep hS).o3); (obtain ⟨g0, g1, -, -⟩ := (KF.out.keep hS).o2); clear hS; go_simp; first | done | exact rfl)))); (case put102 => (simp only [Act.put, List.setIfInBounds_toArray, List.set_cons_zero, List.set_cons_succ]; first | done | exact rfl)); (case' next102 => skip)
  (first | (refine' grow_skip rfl ?wt103 ?put103 ?next103; (case wt103 => rfl)) | (refine' grow_lit rfl ?wt103 ?run103 ?put103 ?next103; (case wt103 => rfl); (case run103 => (intro w' hS H; clear H; (obtain ⟨a0, a1, a2, -, -, -⟩ := (KA.out.keep hS).o3); (obtain ⟨b0, b1, b2, -, -, -⟩ := (KX.out.keep hS).o3); (obtain ⟨y0, y1, y2, -, -, -⟩ := (KY.out.keep hS).o3); (obtain ⟨g0, g1, -, -⟩ := (KF.out.keep hS).o2); clear hS; go_simp; first | done | exact rfl)))); (case put103 => (simp only [Act.put, List.setIfInBounds_toArray, List.set_cons_zero, List.set_cons_succ]; first | done | exact rfl)); (case' next103 => skip)
  (first | (refine' grow_skip rfl ?wt104 ?put104 ?next104; (case wt104 => rfl)) | (refine' grow_lit rfl ?wt104 ?run104 ?put104 ?next104; (case wt104 => rfl); (case run104 => (intro w' hS H; clear H; (obtain ⟨a0, a1, a2, -, -, -⟩ := (KA.out.keep hS).o3); (obtain ⟨b0, b1, b2, -, -, -⟩ := (KX.out.keep hS).o3); (obtain ⟨y0, y1, y2, -, -, -⟩ := (KY.out.keep hS).o3); (obtain ⟨g0, g1, -, -⟩ := (KF.out.keep hS).o2); clear hS; go_simp; first | done | exact rfl)))); (case put104 => (simp only [Act.put, List.setIfInBounds_toArray, List.set_cons_zero, List.set_cons_succ]; first | done | exact rfl)); (case' next104 => skip)
  (refine' grow_call (u := .int .i64 (turnAt I O l x y)) rfl Tryd.func18 (by kernel_rfl) rfl hGS rfl ?wt142 ?run142 ?put142 ?next142; (case wt142 => rfl); (case run142 => (intro w' hS H; exact rturnat_any I O _ l x y w' HS4.out HN.out (TL.out.below hS))); (case put142 => (simp only [Act.put, List.setIfInBounds_toArray, List.set_cons_zero, List.set_cons_succ]; first | done | exact rfl)); (case' next142 => skip))
  (first | (refine' grow_skip rfl ?wt105 ?put105 ?next105; (case wt105 => rfl)) | (refine' grow_lit rfl ?wt105 ?run105 ?put105 ?next105; (case wt105 => rfl); (case run105 => (intro w' hS H; clear H; (obtain ⟨a0, a1, a2, -, -, -⟩ := (KA.out.keep hS).o3); (obtain ⟨b0, b1, b2, -, -, -⟩ := (KX.out.keep hS).o3); (obtain ⟨y0, y1, y2, -, -, -⟩ := (KY.out.keep hS).o3); (obtain ⟨g0, g1, -, -⟩ := (KF.out.keep hS).o2); clear hS; go_simp; first | done | exact rfl)))); (case put105 => (simp only [Act.put, List.setIfInBounds_toArray, List.set_cons_zero, List.set_cons_succ]; first | done | exact rfl)); (case' next105 => skip)
  (first | (refine' grow_skip rfl ?wt106 ?put106 ?next106; (case wt106 => rfl)) | (refine' grow_lit rfl ?wt106 ?run106 ?put106 ?next106; (case wt106 => rfl); (case run106 => (intro w' hS H; clear H; (obtain ⟨a0, a1, a2, -, -, -⟩ := (KA.out.keep hS).o3); (obtain ⟨b0, b1, b2, -, -, -⟩ := (KX.out.keep hS).o3); (obtain ⟨y0, y1, y2, -, -, -⟩ := (KY.out.keep hS).o3); (obtain ⟨g0, g1, -, -⟩ := (KF.out.keep hS).o2); clear hS; go_simp; first | done | exact rfl)))); (case put106 => (simp only [Act.put, List.setIfInBounds_toArray, List.set_cons_zero, List.set_cons_succ]; first | done | exact rfl)); (case' next106 => skip)
  (first | (refine' grow_skip rfl ?wt107 ?put107 ?next107; (case wt107 => rfl)) | (refine' grow_lit rfl ?wt107 ?run107 ?put107 ?next107; (case wt107 => rfl); (case run107 => (intro w' hS H; clear H; (obtain ⟨a0, a1, a2, -, -, -⟩ := (KA.out.keep hS).o3); (obtain ⟨b0, b1, b2, -, -, -⟩ := (KX.out.keep hS).o3); (obtain ⟨y0, y1, y2, -, -, -⟩ := (KY.out.keep hS).o3); (obtain ⟨g0, g1, -, -⟩ := (KF.out.keep hS).o2); clear hS; go_simp; first | done | exact rfl)))); (case put107 => (simp only [Act.put, List.setIfInBounds_toArray, List.set_cons_zero, List.set_cons_succ]; first | done | exact rfl)); (case' next107 => skip)
  (refine' grow_callP (p := fun v w => TabV w v I O l) (hp := fun v w w' h hb => h.below hb) rfl Tryd.func12 (by kernel_rfl) rfl hGS rfl ?wt143 ?run143 ?put143 ?next143; (case wt143 => rfl); (case run143 => (intro w' hS H; exact (to_any I O _ l w' (by omega) (TL.out.below hS)).mono (fun e w2 ⟨v, h1, h2, h3⟩ => ⟨v, h1, h2, h3⟩))); (case put143 => (intro v; simp only [Act.put, List.setIfInBounds_toArray, List.set_cons_zero, List.set_cons_succ]; first | done | exact rfl)); (case' next143 => intro v12))
  (refine' grow_call (u := .int .i64 (bansC l)) rfl Tryd.func19 (by kernel_rfl) rfl hGS rfl ?wt144 ?run144 ?put144 ?next144; (case wt144 => rfl); (case run144 => (intro w' hS H; (have hv12 : TabV w' v12 I O l := H 12 (by decide)); (obtain ⟨uv12, rfl, hv12⟩ := hv12); exact tbans_any I O _ l w' hv12)); (case put144 => (simp only [Act.put, List.setIfInBounds_toArray, List.set_cons_zero, List.set_cons_succ]; first | done | exact rfl)); (case' next144 => skip))
  (first | (refine' grow_skip rfl ?wt108 ?put108 ?next108; (case wt108 => rfl)) | (refine' grow_lit rfl ?wt108 ?run108 ?put108 ?next108; (case wt108 => rfl); (case run108 => (intro w' hS H; clear H; (obtain ⟨a0, a1, a2, -, -, -⟩ := (KA.out.keep hS).o3); (obtain ⟨b0, b1, b2, -, -, -⟩ := (KX.out.keep hS).o3); (obtain ⟨y0, y1, y2, -, -, -⟩ := (KY.out.keep hS).o3); (obtain ⟨g0, g1, -, -⟩ := (KF.out.keep hS).o2); clear hS; go_simp; first | done | exact rfl)))); (case put108 => (simp only [Act.put, List.setIfInBounds_toArray, List.set_cons_zero, List.set_cons_succ]; first | done | exact rfl)); (case' next108 => skip)
  (refine' grow_call (u := .int .i64 (bansC l)) rfl Tryd.func20 (by kernel_rfl) rfl hGS rfl ?wt145 ?run145 ?put145 ?next145; (case wt145 => rfl); (case run145 => (intro w' hS H; exact rbans_any I O _ l w' (TL.out.below hS))); (case put145 => (simp only [Act.put, List.setIfInBounds_toArray, List.set_cons_zero, List.set_cons_succ]; first | done | exact rfl)); (case' next145 => skip))
  (first | (refine' grow_skip rfl ?wt109 ?put109 ?next109; (case wt109 => rfl)) | (refine' grow_lit rfl ?wt109 ?run109 ?put109 ?next109; (case wt109 => rfl); (case run109 => (intro w' hS H; clear H; (obtain ⟨a0, a1, a2, -, -, -⟩ := (KA.out.keep hS).o3); (obtain ⟨b0, b1, b2, -, -, -⟩ := (KX.out.keep hS).o3); (obtain ⟨y0, y1, y2, -, -, -⟩ := (KY.out.keep hS).o3); (obtain ⟨g0, g1, -, -⟩ := (KF.out.keep hS).o2); clear hS; go_simp; first | done | exact rfl)))); (case put109 => (simp only [Act.put, List.setIfInBounds_toArray, List.set_cons_zero, List.set_cons_succ]; first | done | exact rfl)); (case' next109 => skip)
  (first | (refine' grow_skip rfl ?wt110 ?put110 ?next110; (case wt110 => rfl)) | (refine' grow_lit rfl ?wt110 ?run110 ?put110 ?next110; (case wt110 => rfl); (case run110 => (intro w' hS H; clear H; (obtain ⟨a0, a1, a2, -, -, -⟩ := (KA.out.keep hS).o3); (obtain ⟨b0, b1, b2, -, -, -⟩ := (KX.out.keep hS).o3); (obtain ⟨y0, y1, y2, -, -, -⟩ := (KY.out.keep hS).o3); (obtain ⟨g0, g1, -, -⟩ := (KF.out.keep hS).o2); clear hS; go_simp; first | done | exact rfl)))); (case put110 => (simp only [Act.put, List.setIfInBounds_toArray, List.set_cons_zero, List.set_cons_succ]; first | done | exact rfl)); (case' next110 => skip)
  (first | (refine' grow_skip rfl ?wt111 ?put111 ?next111; (case wt111 => rfl)) | (refine' grow_lit rfl ?wt111 ?run111 ?put111 ?next111; (case wt111 => rfl); (case run111 => (intro w' hS H; clear H; (obtain ⟨a0, a1, a2, -, -, -⟩ := (KA.out.keep hS).o3); (obtain ⟨b0, b1, b2, -, -, -⟩ := (KX.out.keep hS).o3); (obtain ⟨y0, y1, y2, -, -, -⟩ := (KY.out.keep hS).o3); (obtain ⟨g0, g1, -, -⟩ := (KF.out.keep hS).o2); clear hS; go_simp; first | done | exact rfl)))); (case put111 => (simp only [Act.put, List.setIfInBounds_toArray, List.set_cons_zero, List.set_cons_succ]; first | done | exact rfl)); (case' next111 => skip)
  (first | (refine' grow_skip rfl ?wt112 ?put112 ?next112; (case wt112 => rfl)) | (refine' grow_lit rfl ?wt112 ?run112 ?put112 ?next112; (case wt112 => rfl); (case run112 => (intro w' hS H; clear H; (obtain ⟨a0, a1, a2, -, -, -⟩ := (KA.out.keep hS).o3); (obtain ⟨b0, b1, b2, -, -, -⟩ := (KX.out.keep hS).o3); (obtain ⟨y0, y1, y2, -, -, -⟩ := (KY.out.keep hS).o3); (obtain ⟨g0, g1, -, -⟩ := (KF.out.keep hS).o2); clear hS; go_simp; first | done | exact rfl)))); (case put112 => (simp only [Act.put, List.setIfInBounds_toArray, List.set_cons_zero, List.set_cons_succ]; first | done | exact rfl)); (case' next112 => skip)
  (first | (refine' grow_skip rfl ?wt113 ?put113 ?next113; (case wt113 => rfl)) | (refine' grow_lit rfl ?wt113 ?run113 ?put113 ?next113; (case wt113 => rfl); (case run113 => (intro w' hS H; clear H; (obtain ⟨a0, a1, a2, -, -, -⟩ := (KA.out.keep hS).o3); (obtain ⟨b0, b1, b2, -, -, -⟩ := (KX.out.keep hS).o3); (obtain ⟨y0, y1, y2, -, -, -⟩ := (KY.out.keep hS).o3); (obtain ⟨g0, g1, -, -⟩ := (KF.out.keep hS).o2); clear hS; go_simp; first | done | exact rfl)))); (case put113 => (simp only [Act.put, List.setIfInBounds_toArray, List.set_cons_zero, List.set_cons_succ]; first | done | exact rfl)); (case' next113 => skip)
  (refine' grow_call (u := .bool true) rfl Tryd.func10 (by kernel_rfl) rfl hGS rfl ?wt146 ?run146 ?put146 ?next146; (case wt146 => rfl); (case run146 => (intro w' hS H; exact tells_post _ _ (turnW (withW I O x y c)) (withW I O x y c).2 w' (HG.out.keep hS) (FX.out.below hS) (WF.out.below hS) (turnW_or _))); (case put146 => (simp only [Act.put, List.setIfInBounds_toArray, List.set_cons_zero, List.set_cons_succ]; first | done | exact rfl)); (case' next146 => skip))
  (first | (refine' grow_skip rfl ?wt114 ?put114 ?next114; (case wt114 => rfl)) | (refine' grow_lit rfl ?wt114 ?run114 ?put114 ?next114; (case wt114 => rfl); (case run114 => (intro w' hS H; clear H; (obtain ⟨a0, a1, a2, -, -, -⟩ := (KA.out.keep hS).o3); (obtain ⟨b0, b1, b2, -, -, -⟩ := (KX.out.keep hS).o3); (obtain ⟨y0, y1, y2, -, -, -⟩ := (KY.out.keep hS).o3); (obtain ⟨g0, g1, -, -⟩ := (KF.out.keep hS).o2); clear hS; go_simp; first | done | exact rfl)))); (case put114 => (simp only [Act.put, List.setIfInBounds_toArray, List.set_cons_zero, List.set_cons_succ]; first | done | exact rfl)); (case' next114 => skip)
  (first | (refine' grow_skip rfl ?wt115 ?put115 ?next115; (case wt115 => rfl)) | (refine' grow_lit rfl ?wt115 ?run115 ?put115 ?next115; (case wt115 => rfl); (case run115 => (intro w' hS H; clear H; (obtain ⟨a0, a1, a2, -, -, -⟩ := (KA.out.keep hS).o3); (obtain ⟨b0, b1, b2, -, -, -⟩ := (KX.out.keep hS).o3); (obtain ⟨y0, y1, y2, -, -, -⟩ := (KY.out.keep hS).o3); (obtain ⟨g0, g1, -, -⟩ := (KF.out.keep hS).o2); clear hS; go_simp; first | done | exact rfl)))); (case put115 => (simp only [Act.put, List.setIfInBounds_toArray, List.set_cons_zero, List.set_cons_succ]; first | done | exact rfl)); (case' next115 => skip)
  (first | (refine' grow_skip rfl ?wt116 ?put116 ?next116; (case wt116 => rfl)) | (refine' grow_lit rfl ?wt116 ?run116 ?put116 ?next116; (case wt116 => rfl); (case run116 => (intro w' hS H; clear H; (obtain ⟨a0, a1, a2, -, -, -⟩ := (KA.out.keep hS).o3); (obtain ⟨b0, b1, b2, -, -, -⟩ := (KX.out.keep hS).o3); (obtain ⟨y0, y1, y2, -, -, -⟩ := (KY.out.keep hS).o3); (obtain ⟨g0, g1, -, -⟩ := (KF.out.keep hS).o2); clear hS; go_simp; first | done | exact rfl)))); (case put116 => (simp only [Act.put, List.setIfInBounds_toArray, List.set_cons_zero, List.set_cons_succ]; first | done | exact rfl)); (case' next116 => skip)
  (refine' grow_callP (p := fun v w => TabV w v (withT I O l x y c).1 (withT I O l x y c).2.1 (withT I O l x y c).2.2) (hp := fun v w w' h hb => h.below hb) rfl Tryd.func21 (by kernel_rfl) rfl hGS rfl ?wt147 ?run147 ?put147 ?next147; (case wt147 => rfl); (case run147 => (intro w' hS H; exact (of_any (withT I O l x y c).1 (withT I O l x y c).2.1 _ (withT I O l x y c).2.2 w' (TX.out.below hS)).mono (fun e w2 ⟨v, h1, h2, h3⟩ => ⟨v, h1, h2, h3⟩))); (case put147 => (intro v; simp only [Act.put, List.setIfInBounds_toArray, List.set_cons_zero, List.set_cons_succ]; first | done | exact rfl)); (case' next147 => intro v25))
  (first | (refine' grow_skip rfl ?wt117 ?put117 ?next117; (case wt117 => rfl)) | (refine' grow_lit rfl ?wt117 ?run117 ?put117 ?next117; (case wt117 => rfl); (case run117 => (intro w' hS H; clear H; (obtain ⟨a0, a1, a2, -, -, -⟩ := (KA.out.keep hS).o3); (obtain ⟨b0, b1, b2, -, -, -⟩ := (KX.out.keep hS).o3); (obtain ⟨y0, y1, y2, -, -, -⟩ := (KY.out.keep hS).o3); (obtain ⟨g0, g1, -, -⟩ := (KF.out.keep hS).o2); clear hS; go_simp; first | done | exact rfl)))); (case put117 => (simp only [Act.put, List.setIfInBounds_toArray, List.set_cons_zero, List.set_cons_succ]; first | done | exact rfl)); (case' next117 => skip)
  (refine' grow_call (u := .bool true) rfl Tryd.func14 (by kernel_rfl) rfl hGS rfl ?wt148 ?run148 ?put148 ?next148; (case wt148 => rfl); (case run148 => (intro w' hS H; (have hv25 : TabV w' v25 (withT I O l x y c).1 (withT I O l x y c).2.1 (withT I O l x y c).2.2 := H 25 (by decide)); (obtain ⟨uv25, rfl, hv25⟩ := hv25); exact (rsame_any (withT I O l x y c).1 (withT I O l x y c).2.1 (withT I O l x y c).1 (withT I O l x y c).2.1 _ _ (withT I O l x y c).2.2 (withT I O l x y c).2.2 w' hv25 (TY.out.below hS)).mono (fun e w2 h => ⟨h.1.trans (by simp), h.2⟩))); (case put148 => (simp only [Act.put, List.setIfInBounds_toArray, List.set_cons_zero, List.set_cons_succ]; first | done | exact rfl)); (case' next148 => skip))
  (first | (refine' grow_skip rfl ?wt118 ?put118 ?next118; (case wt118 => rfl)) | (refine' grow_lit rfl ?wt118 ?run118 ?put118 ?next118; (case wt118 => rfl); (case run118 => (intro w' hS H; clear H; (obtain ⟨a0, a1, a2, -, -, -⟩ := (KA.out.keep hS).o3); (obtain ⟨b0, b1, b2, -, -, -⟩ := (KX.out.keep hS).o3); (obtain ⟨y0, y1, y2, -, -, -⟩ := (KY.out.keep hS).o3); (obtain ⟨g0, g1, -, -⟩ := (KF.out.keep hS).o2); clear hS; go_simp; first | done | exact rfl)))); (case put118 => (simp only [Act.put, List.setIfInBounds_toArray, List.set_cons_zero, List.set_cons_succ]; first | done | exact rfl)); (case' next118 => skip)
  (first | (refine' grow_skip rfl ?wt119 ?put119 ?next119; (case wt119 => rfl)) | (refine' grow_lit rfl ?wt119 ?run119 ?put119 ?next119; (case wt119 => rfl); (case run119 => (intro w' hS H; clear H; (obtain ⟨a0, a1, a2, -, -, -⟩ := (KA.out.keep hS).o3); (obtain ⟨b0, b1, b2, -, -, -⟩ := (KX.out.keep hS).o3); (obtain ⟨y0, y1, y2, -, -, -⟩ := (KY.out.keep hS).o3); (obtain ⟨g0, g1, -, -⟩ := (KF.out.keep hS).o2); clear hS; go_simp; first | done | exact rfl)))); (case put119 => (simp only [Act.put, List.setIfInBounds_toArray, List.set_cons_zero, List.set_cons_succ]; first | done | exact rfl)); (case' next119 => skip)
  intro w' hS _
  have HF := Lib.hid (B0.out.trans (hS.mono B0.out.size))
  clear hS
  go_wp2_with fail
  go_ret
  exact ⟨rfl, HF.out⟩

theorem any_walk (v : Value) (I O : Int) (ul : Value) (l : List Int) (u : Value) (J M : Int) (um : Value) (m : List Int) (x y c : Int) (w : World) (hg : ErrT w) (hv : TabIn w v I O ul l) (hu : TabIn w u J M um m)
    (_ : -9223372036854775808 ≤ x) (_ : x ≤ 9223372036854775807) (_ : -9223372036854775808 ≤ y) (_ : y ≤ 9223372036854775807) (c0 : -9223372036854775808 ≤ c) (c1 : c ≤ 9223372036854775807) :
    Calls Tryd.prog 3 #[v, u, .int .i64 x, .int .i64 y, .int .i64 c] w fun e w' => e = .returned (.bool true) ∧ Below w.heap.size w w' := by
  by_cases h : 600 < l.length ∨ 600 < m.length
  · exact any_long v u I O ul l J M um m x y c w hg hv hu h
  · by_cases hck : (chkT I O l).2 = 0
    · have hz : chkT I O l = (0, 0) := by
        obtain ⟨q0, q1, q2, q3, hn, hall⟩ := chkT_ok hck
        exact chkT_mk ⟨q0, q1⟩ ⟨q2, q3⟩ hn hall
      exact any_ok v u I O ul l J M um m x y c w hg hv hu (by omega) (by omega) hz c0 c1
    · exact any_bad v u I O ul l J M um m x y c w hg hv hu (by omega) (by omega) hck

set_option maxRecDepth 100000 in
theorem turnAny_walks : Walks laidAll 3 Tryd.f3 := by
  intro H enc W args ds g
  obtain ⟨ps, hA⟩ := g.reads
  obtain ⟨base, hval⟩ := g.okay
  rw [Tryd.params3] at hA hval
  obtain ⟨v0, vs0, d0, ds0, p0, q0, hargs, rfl, rfl, h0, r0⟩ := trodAll_cons hA
  obtain ⟨v1, vs1, d1, ds1, p1, q1, rfl, rfl, rfl, h1, r1⟩ := trodAll_cons r0
  obtain ⟨v2, vs2, d2, ds2, p2, q2, rfl, rfl, rfl, h2, r2⟩ := trodAll_cons r1
  obtain ⟨v3, vs3, d3, ds3, p3, q3, rfl, rfl, rfl, h3, r3⟩ := trodAll_cons r2
  obtain ⟨v4, vs4, d4, ds4, p4, q4, rfl, rfl, rfl, h4, r4⟩ := trodAll_cons r3
  obtain ⟨rfl, rfl, rfl⟩ := trodAll_nil r4
  obtain rfl : args = #[v0, v1, v2, v3, v4] := Array.toList_inj.1 hargs
  obtain ⟨I0, O0, u0, l0, T0⟩ := open_tab (hval 0 24 v0 rfl rfl) h0
  obtain ⟨I1, O1, u1, l1, T1⟩ := open_tab (hval 1 24 v1 rfl rfl) h1
  obtain ⟨x2, rfl, rfl, rfl, w2⟩ := open_int Tryd.underlying3 (hval 2 3 v2 rfl rfl) h2
  obtain ⟨x3, rfl, rfl, rfl, w3⟩ := open_int Tryd.underlying3 (hval 3 3 v3 rfl rfl) h3
  obtain ⟨x4, rfl, rfl, rfl, w4⟩ := open_int Tryd.underlying2 (hval 4 2 v4 rfl rfl) h4
  exact any_walk v0 I0 O0 u0 l0 v1 I1 O1 u1 l1 x2 x3 x4 W (errT_of_laid g.laid) T0 T1 (wf64 w2).1 (wf64 w2).2 (wf64 w3).1 (wf64 w3).2 (wf64 w4).1 (wf64 w4).2

theorem turnAny_row : Rows.TurnAnySaid :=
  OpenClaim.holds_of_wide 3 Tryd.f3 rfl rfl rfl rfl rfl rfl rfl ⟨rfl, rfl, rfl, rfl, rfl⟩ rfl rfl rfl rfl rfl (by kernel_rfl) Tryd.func3 (by kernel_rfl)
    (of_decide_eq_true (by kernel_rfl)) (by unfold Func.isWrapper; rw [if_neg (of_decide_eq_false (by kernel_rfl))]; exact ⟨rfl, rfl⟩)
    (fun os started H enc _ => law_lifted (s := Rows.turnAnySpec) (L := laidAll) Tryd.func3 (by kernel_rfl) rfl (by kernel_rfl)
      (fun H ds hl => by
        rw [Tryd.params3] at hl
        match ds, hl with
        | [_, _, _, _, _], _ => exact ⟨rfl, rfl, rfl⟩)
      (by kernel_rfl) os started H enc
      (ChangeSpec.witness_at (enc := enc) (C := Tryd.checked) (os := os) (X := fun w _ => laidMetH Tryd.prog laidAll w) false (laidWorld os) #[.agg #[.int .i64 0, .int .i64 0, .slice none 0 0], .agg #[.int .i64 0, .int .i64 0, .slice none 0 0], .int .i64 0, .int .i64 0, .int .i64 0] 8 rfl (by kernel_rfl) (by kernel_rfl) (by kernel_rfl) (by kernel_rfl) (by kernel_rfl) (laidWorld_met os _))
      turnAny_walks)

theorem turnAny_card : Rows.TurnAnyCardSaid :=
  Claim7.holds_tied_plain_at .later [] laidKindsAll true (Rows.turnAnyCard.stood.harness) true
    turnAny_row (fun _ h => by cases h) (by kernel_rfl) (fun _ h => by cases h) turnAny_row_tie rfl ⟨rfl, rfl⟩ (by kernel_rfl) rfl
    (fun f fn hf hfn => by
      obtain rfl : f = 3 := Option.some.inj ((show Tryd.prog.funcNamed "roundsman/roundsmanlaw2.TurnAny" = some 3 by kernel_rfl).symm.trans hf) |>.symm
      obtain rfl : fn = Tryd.f3 := (Option.some.inj (Tryd.func3.symm.trans hfn)).symm
      exact ⟨by kernel_rfl, fun j t ht => by
        rw [Tryd.params3] at ht
        exact stand_all #[24, 24, 3, 3, 2] (by kernel_rfl) j t ht⟩)
    (by kernel_rfl)
#print axioms turnAny_card

end Go.Proofs.YtboimdgldjimpaaDoor
