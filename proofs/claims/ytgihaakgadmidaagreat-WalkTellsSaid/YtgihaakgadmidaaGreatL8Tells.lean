/-
  PROVED: what From, To and Reach tell is what the document tells. For every net and every number.
-/
import Derived.Test.YtgihaakgadmidaaGreatK7
import Derived.Test.YtgihaakgadmidaaGreatK12
import Derived.BigQuiet
import Derived.RegionTactic
import Derived.IntWalk
import Derived.Test.YtgihaakgadmidaaGreatK10
namespace Go.Proofs.YtgihaakgadmidaaGreat
open HP Go.ChangeShapes Go.WideShapes Go.ChangeAt Go.RowKit

theorem RowC.i64 {w : World} {b N : Nat} {d : List Int} (h : RowC w b d) (hl : d.length = N) (hN : N ≤ 100000) : I64s w (.slice (some ⟨b, 0, none⟩) N N) d := by
  subst hl
  refine Or.inr ⟨by omega, b, 0, d.length, Nat.le_refl _, by omega, rfl, fun i hi => ?_⟩
  have := h.at hi
  rw [Nat.zero_add]
  simpa [ctL, hi] using this
theorem reachL_len (C : List Int) : (reachL C).length = C.length := by simp [reachL]
theorem reachL_at {C : List Int} {k : Nat} (hk : k < C.length) : (reachL C).getD k false = (ctL C k != 1152921504606846976) := by simp [reachL, hk, ctL]
theorem Bools.cellsAt8 {w : World} {q : Option Addr} {n c : Nat} {l : List Bool} (h : Bools w (.slice q n c) l) (h0 : 0 < l.length) : ∃ b o, q = some ⟨b, o, none⟩ ∧ b < w.heap.size ∧ ∀ i, i < l.length → w.cell? ⟨b, o + i, none⟩ = some (.bool (l.getD i false)) := by
  rcases h with ⟨e, _⟩ | ⟨_, b, o, c', _, e, hc⟩
  · subst e; simp at h0
  · injection e with e1
    refine ⟨b, o, e1, World.block_lt_of_cell? w _ (hc 0 h0), fun i hi => ?_⟩
    rw [hc i hi]
    simp [hi]
def FromV (n : NetD) (s : Int) (v : Value) (w : World) : Prop := ∃ C, FromP n s C ∧ I64s w v C
def ToV (n : NetD) (s : Int) (v : Value) (w : World) : Prop := ∃ C, ToP n s C ∧ I64s w v C
theorem FromV.below {n : NetD} {s : Int} {v : Value} {w w' : World} (h : FromV n s v w) (hb : Below w.heap.size w w') : FromV n s v w' := by
  obtain ⟨C, h1, h2⟩ := h
  exact ⟨C, h1, h2.below hb⟩
theorem ToV.below {n : NetD} {s : Int} {v : Value} {w w' : World} (h : ToV n s v w) (hb : Below w.heap.size w w') : ToV n s v w' := by
  obtain ⟨C, h1, h2⟩ := h
  exact ⟨C, h1, h2.below hb⟩

set_option maxHeartbeats 8000000 in
set_option maxRecDepth 100000 in
theorem tells_no (v : Value) (n : NetD) (x : Int) (w : World) (hv : NetV w v n) (hin : InNet n) (hs : smallN n = false) :
    Calls Tryz.prog 3 #[v, .int .i64 x] w fun e w' => e = .returned (.bool true) ∧ Below w.heap.size w w' := by
  obtain ⟨vq, aq, tq, vc, ac, tc, rfl, -⟩ := hv.shape
  have HS := Lib.hid hs
  have HIN := Lib.hid hin
  clear hs hin
  obtain ⟨W0, hW0⟩ := named (w.alloc (.cells #[.slice vq n.v.length vc, .slice aq n.a.length ac, .slice tq n.t.length tc] 26))
  have hb0 : Below w.heap.size w W0 := by rw [hW0]; exact below_alloc1 _
  have k0 : Blk W0 w.heap.size #[.slice vq n.v.length vc, .slice aq n.a.length ac, .slice tq n.t.length tc] 26 := by rw [hW0]; exact Blk.new _ _ _ _ rfl
  have KA := Lib.hid (k0)
  have B0 := Lib.hid (hb0)
  have VA := Lib.hid (hv.below hb0)
  have e0 := hW0.symm
  clear hb0 k0 hW0 hv
  go_enter Tryz.func3, Tryz.ntmps3
  go_wp2_with fail
  clear e0
  refine (known8_any W0).mono ?_
  rintro e w1 ⟨rfl, hb⟩
  have KA_ := Lib.hid (KA.out.keep hb)
  have B0_ := Lib.hid (bOn6 B0.out hb)
  have VA_ := Lib.hid (VA.out.below hb)
  clear KA B0 VA
  have KA := KA_
  have B0 := B0_
  have VA := VA_
  clear KA_ B0_ VA_
  clear hb 
  obtain ⟨p0, p1, p2, -, -, -⟩ := KA.out.o3
  have pl := KA.out.lt
  go_wp2_with fail
  clear p0 p1 p2 pl
  refine (vSmall VA.out HIN.out HS.out).mono ?_
  rintro e w2 ⟨rfl, hb⟩
  have KA_ := Lib.hid (KA.out.keep hb)
  have B0_ := Lib.hid (bOn6 B0.out hb)
  have VA_ := Lib.hid (VA.out.below hb)
  clear KA B0 VA
  have KA := KA_
  have B0 := B0_
  have VA := VA_
  clear KA_ B0_ VA_
  clear hb 
  obtain ⟨p0, p1, p2, -, -, -⟩ := KA.out.o3
  have pl := KA.out.lt
  go_wp2_with fail
  clear p0 p1 p2 pl
  go_ret
  exact ⟨rfl, B0.out⟩

set_option maxHeartbeats 8000000 in
set_option maxRecDepth 100000 in
theorem tells_yes (v : Value) (n : NetD) (x : Int) (w : World) (hv : NetV w v n) (hin : InNet n) (hs : smallN n = true) (s0 : -9223372036854775808 ≤ x) (s1 : x ≤ 9223372036854775807) :
    Calls Tryz.prog 3 #[v, .int .i64 x] w fun e w' => e = .returned (.bool true) ∧ Below w.heap.size w w' := by
  obtain ⟨vq, aq, tq, vc, ac, tc, rfl, -⟩ := hv.shape
  obtain ⟨hgr, hfew, hok, h90⟩ := small_gr hs hin
  have HS := Lib.hid hs
  have HIN := Lib.hid hin
  have HGR := Lib.hid hgr
  have HOK := Lib.hid hok
  have HSI := Lib.hid (And.intro s0 s1)
  clear hs hin hgr hfew hok
  obtain ⟨W0, hW0⟩ := named (w.alloc (.cells #[.slice vq n.v.length vc, .slice aq n.a.length ac, .slice tq n.t.length tc] 26))
  have hb0 : Below w.heap.size w W0 := by rw [hW0]; exact below_alloc1 _
  have k0 : Blk W0 w.heap.size #[.slice vq n.v.length vc, .slice aq n.a.length ac, .slice tq n.t.length tc] 26 := by rw [hW0]; exact Blk.new _ _ _ _ rfl
  have KA := Lib.hid (k0)
  have B0 := Lib.hid (hb0)
  have VA := Lib.hid (hv.below hb0)
  have e0 := hW0.symm
  clear hb0 k0 hW0 hv
  go_enter Tryz.func3, Tryz.ntmps3
  go_wp2_with fail
  clear e0
  refine (known8_any W0).mono ?_
  rintro e w1 ⟨rfl, hb⟩
  have KA_ := Lib.hid (KA.out.keep hb)
  have B0_ := Lib.hid (bOn6 B0.out hb)
  have VA_ := Lib.hid (VA.out.below hb)
  clear KA B0 VA
  have KA := KA_
  have B0 := B0_
  have VA := VA_
  clear KA_ B0_ VA_
  clear hb 
  obtain ⟨p0, p1, p2, -, -, -⟩ := KA.out.o3
  have pl := KA.out.lt
  go_wp2_with fail
  clear p0 p1 p2 pl
  refine (vSmall VA.out HIN.out HS.out).mono ?_
  rintro e w2 ⟨rfl, hb⟩
  have KA_ := Lib.hid (KA.out.keep hb)
  have B0_ := Lib.hid (bOn6 B0.out hb)
  have VA_ := Lib.hid (VA.out.below hb)
  clear KA B0 VA
  have KA := KA_
  have B0 := B0_
  have VA := VA_
  clear KA_ B0_ VA_
  clear hb 
  obtain ⟨p0, p1, p2, -, -, -⟩ := KA.out.o3
  have pl := KA.out.lt
  go_wp2_with fail
  clear p0 p1 p2 pl
  refine (vMade B0.out VA.out HGR.out HOK.out).mono ?_
  rintro e w3 ⟨p, va, vt, rfl, hG, hb⟩
  have KA_ := Lib.hid (KA.out.keep hb)
  have B0_ := Lib.hid (bOn6 B0.out hb)
  have VA_ := Lib.hid (VA.out.below hb)
  clear KA B0 VA
  have KA := KA_
  have B0 := B0_
  have VA := VA_
  clear KA_ B0_ VA_
  have G := Lib.hid (hG)
  clear B0
  clear hb hG
  obtain ⟨p0, p1, p2, -, -, -⟩ := KA.out.o3
  have pl := KA.out.lt
  go_wp2_with fail
  clear p0 p1 p2 pl
  refine (of_is VA.out HGR.out).mono ?_
  rintro e w4 ⟨rv, rfl, hrv, hb⟩
  have KA_ := Lib.hid (KA.out.keep hb)
  have VA_ := Lib.hid (VA.out.below hb)
  have G_ := Lib.hid (G.out.old hb)
  clear KA VA G
  have KA := KA_
  have VA := VA_
  have G := G_
  clear KA_ VA_ G_
  clear hb
  obtain ⟨vq2, aq2, tq2, vc2, ac2, tc2, u3, u4, rfl, hrs, R3, R4⟩ := id hrv
  obtain ⟨q3, k3, rfl⟩ := R3.shape
  obtain ⟨q4, k4, rfl⟩ := R4.shape
  have HRV := Lib.hid hrv
  clear hrv hrs R3 R4
  go_wp2_with fail
  obtain ⟨w5, hw5⟩ := named (w4.alloc (.cells #[.slice vq2 n.v.length vc2, .slice aq2 n.a.length ac2, .slice tq2 n.t.length tc2, .slice q3 n.a.length k3, .slice q4 n.a.length k4] 34))
  have hb : Below w4.heap.size w4 w5 := by rw [hw5]; exact below_alloc1 _
  have k5 : Blk w5 w4.heap.size #[.slice vq2 n.v.length vc2, .slice aq2 n.a.length ac2, .slice tq2 n.t.length tc2, .slice q3 n.a.length k3, .slice q4 n.a.length k4] 34 := by rw [hw5]; exact Blk.new _ _ _ _ rfl
  rw [← hw5]
  clear hw5
  have KA_ := Lib.hid (KA.out.keep hb)
  have VA_ := Lib.hid (VA.out.below hb)
  have G_ := Lib.hid (G.out.old hb)
  have HRV_ := Lib.hid (HRV.out.below hb)
  clear KA VA G HRV
  have KA := KA_
  have VA := VA_
  have G := G_
  have HRV := HRV_
  clear KA_ VA_ G_ HRV_
  have KR := Lib.hid (k5)
  clear hb k5
  refine (rfrom_is HRV.out HGR.out).mono ?_
  rintro e w6 ⟨b, d, rfl, hz, hr, hf, hb⟩
  have KA_ := Lib.hid (KA.out.keep hb)
  have VA_ := Lib.hid (VA.out.below hb)
  have G_ := Lib.hid (G.out.old hb)
  have HRV_ := Lib.hid (HRV.out.below hb)
  have KR_ := Lib.hid (KR.out.keep hb)
  clear KA VA G HRV KR
  have KA := KA_
  have VA := VA_
  have G := G_
  have HRV := HRV_
  have KR := KR_
  clear KA_ VA_ G_ HRV_ KR_
  have HF := Lib.hid hf
  have HD0 := Lib.hid (hr.i64 hf.1 (by omega))
  clear hb hr hf hz
  go_wp2_with fail
  refine (wreach_is G.out.g G.out.n x HSI.out.1 HSI.out.2).mono ?_
  rintro e w7 ⟨rb, C, rfl, hbo, hF2, hb⟩
  obtain rfl : C = d := hF2.uniq HF.out
  have KA_ := Lib.hid (KA.out.keep hb)
  have VA_ := Lib.hid (VA.out.below hb)
  have G_ := Lib.hid (G.out.old hb)
  have HRV_ := Lib.hid (HRV.out.below hb)
  have KR_ := Lib.hid (KR.out.keep hb)
  have HD0_ := Lib.hid (HD0.out.below hb)
  clear KA VA G HRV KR HD0
  have KA := KA_
  have VA := VA_
  have G := G_
  have HRV := HRV_
  have KR := KR_
  have HD0 := HD0_
  clear KA_ VA_ G_ HRV_ KR_ HD0_
  have HB := Lib.hid hbo
  clear hb hbo hF2
  go_wp2_with fail
  have hd7 := HF.out.1
  have HDN := Lib.hid hd7
  have DS0 : Hid (GG.BelS9 w7 (fun _ => false) () w7.drew) := Lib.hid ⟨(Below.refl _ _).drew⟩
  have HBR : Hid (C.length = n.a.length) := Lib.hid hd7
  obtain ⟨rq, rc, rfl⟩ : ∃ q c, rb = .slice q n.a.length c := by
    rcases HB.out with ⟨e, p, c, rfl⟩ | ⟨_, b, o, c, _, rfl, _⟩
    · have := congrArg List.length e
      simp [reachL] at this
      refine ⟨p, c, ?_⟩
      rw [show n.a.length = 0 from by rw [← hd7, this]; rfl]
    · exact ⟨_, c, by rw [show (reachL C).length = n.a.length from by simp [reachL, hd7]]⟩
  clear hd7
  go_wp2_with fail
  refine' GG.wp_growL _ (GG.BelS9 w7) [[], [], [0, 1], [], [0, 1, 2, 3], [0, 1, 2, 3, 4], [0, 1, 2, 3, 4, 5], [0, 1, 2, 3, 4, 5, 6], [0, 1, 2, 3, 4, 5, 6], [0, 1, 2, 3, 4, 5, 6, 7, 8], [0, 1, 2, 3, 4, 5, 6], [0, 1, 2, 3, 4, 5, 6], [0, 1, 2, 3, 4, 5, 6, 7, 8, 9, 10, 11], [0, 1, 2, 3, 4, 5, 6, 7, 8, 9, 10, 11, 12], [0, 1, 2, 3, 4, 5, 6, 7, 8, 9, 10, 11, 12, 13], [0, 1, 2, 3, 4, 5, 6, 7, 8, 9, 10, 11, 12, 13, 14], [0, 1, 2, 3, 4, 5, 6, 7, 8, 9, 10, 11, 12, 13, 14, 15], [0, 1, 2, 3, 4, 5, 6, 7, 8, 9, 10, 11, 12, 13, 14, 15, 16], [0, 1, 2, 3, 4, 5, 6, 7, 8, 9, 10, 11, 12, 13, 14, 15, 16, 17], [0, 1, 2, 3, 4, 5, 6, 7, 8, 9, 10, 11, 12, 13, 14, 15, 16], [0, 1, 2, 3, 4, 5, 6, 7, 8, 9, 10, 11, 12, 13, 14, 15, 16, 19], [0, 1, 2, 3, 4, 5, 6, 7, 8, 9, 10, 11, 12, 13, 14, 15, 16, 17, 18, 19, 20], [0, 1, 2, 3, 4, 5, 6, 7, 8, 9, 10, 11, 12, 13, 14, 15, 16, 17, 18, 19, 20, 21]] (GG.Fact.lit (Rl := GG.RlB9) _ :: GG.Fact.lit (Rl := GG.RlB9) _ :: GG.Fact.prop (Rl := GG.RlB9) _ _ :: GG.Fact.lit (Rl := GG.RlB9) _ :: GG.Fact.lit (Rl := GG.RlB9) _ :: GG.Fact.lit (Rl := GG.RlB9) _ :: GG.Fact.lit (Rl := GG.RlB9) _ :: GG.Fact.lit (Rl := GG.RlB9) _ :: GG.Fact.lit (Rl := GG.RlB9) _ :: GG.Fact.prop (Rl := GG.RlB9) _ _ :: GG.Fact.lit (Rl := GG.RlB9) _ :: GG.Fact.lit (Rl := GG.RlB9) _ :: GG.Fact.prop (Rl := GG.RlB9) _ _ :: GG.Fact.lit (Rl := GG.RlB9) _ :: GG.Fact.lit (Rl := GG.RlB9) _ :: GG.Fact.lit (Rl := GG.RlB9) _ :: GG.Fact.lit (Rl := GG.RlB9) _ :: GG.Fact.lit (Rl := GG.RlB9) _ :: GG.Fact.lit (Rl := GG.RlB9) _ :: GG.Fact.lit (Rl := GG.RlB9) _ :: GG.Fact.lit (Rl := GG.RlB9) _ :: GG.Fact.lit (Rl := GG.RlB9) _ :: GG.Fact.lit (Rl := GG.RlB9) _ :: []) (by kernel_rfl) rfl (by kernel_rfl) (()) (DS0.out) ?seqtl
  case' seqtl => skip
  (refine' GG.grow_lit (GG.BelS9.still) rfl ?wttl0 ?runtl0 ?puttl0 ?nexttl0; (case wttl0 => rfl); (case runtl0 => (intro w' hS; (obtain ⟨dn, s, hS⟩ := hS); (obtain ⟨c0, c1, c2, c3, c4, -⟩ := (KR.out.keep hS.b).o5); clear hS; go_simp; first | done | exact rfl)); (case puttl0 => (first | (simp only [Act.put, List.setIfInBounds_toArray, List.set_cons_zero, List.set_cons_succ]; first | done | exact rfl) | rfl)); (case' nexttl0 => skip))
  (refine' GG.grow_lit (GG.BelS9.still) rfl ?wttl1 ?runtl1 ?puttl1 ?nexttl1; (case wttl1 => rfl); (case runtl1 => (intro w' hS; (obtain ⟨dn, s, hS⟩ := hS); (obtain ⟨c0, c1, c2, c3, c4, -⟩ := (KR.out.keep hS.b).o5); clear hS; go_simp; first | done | exact rfl)); (case puttl1 => (first | (simp only [Act.put, List.setIfInBounds_toArray, List.set_cons_zero, List.set_cons_succ]; first | done | exact rfl) | rfl)); (case' nexttl1 => skip))
  (refine' GG.grow_any_call (p := fun v _ w => FromV n x v w) (hp := fun v s w s' w' h hb => FromV.below h hb) rfl Tryz.func12 (by kernel_rfl) rfl rfl ?wttl2 ?runtl2 ?puttl2 ?nexttl2; (case wttl2 => rfl); (case runtl2 => (intro dn s w' hS hd H; exact (wFrom_is (G.out.g.old hS.b) G.out.n x HSI.out.1 HSI.out.2).mono (fun e w2 ⟨v, C2, h1, h2, h3, h4⟩ => ⟨v, (), h1, ⟨C2, h3, h2⟩, ⟨hS.b.trans (h4.mono hS.b.size)⟩, h4, h4.size⟩))); (case puttl2 => (intro v; (simp only [Act.put, List.setIfInBounds_toArray, List.set_cons_zero, List.set_cons_succ]; first | done | exact rfl))); (case' nexttl2 => intro v2))
  (refine' GG.grow_lit (GG.BelS9.still) rfl ?wttl3 ?runtl3 ?puttl3 ?nexttl3; (case wttl3 => rfl); (case runtl3 => (intro w' hS; (obtain ⟨dn, s, hS⟩ := hS); (obtain ⟨c0, c1, c2, c3, c4, -⟩ := (KR.out.keep hS.b).o5); clear hS; go_simp; first | done | exact rfl)); (case puttl3 => (first | (simp only [Act.put, List.setIfInBounds_toArray, List.set_cons_zero, List.set_cons_succ]; first | done | exact rfl) | rfl)); (case' nexttl3 => skip))
  (refine' GG.grow_lit_call (u := .bool true) rfl Tryz.func11 (by kernel_rfl) rfl rfl ?wttl4 ?runtl4 ?puttl4 ?nexttl4; (case wttl4 => rfl); (case runtl4 => (intro dn s w' hS hd H; (have hv2 : FromV n x v2 w' := H 2 (by decide)); (obtain ⟨C2, hF3, hi2⟩ := hv2); exact (vsameC hi2 (HD0.out.below hS.b) (by simpa using hF3.uniq HF.out)).mono (fun e w2 h => ⟨(), h.1, ⟨hS.b.trans (h.2.mono hS.b.size)⟩, h.2, h.2.size⟩))); (case puttl4 => (first | (simp only [Act.put, List.setIfInBounds_toArray, List.set_cons_zero, List.set_cons_succ]; first | done | exact rfl) | rfl)); (case' nexttl4 => skip))
  (refine' GG.grow_lit (GG.BelS9.still) rfl ?wttl5 ?runtl5 ?puttl5 ?nexttl5; (case wttl5 => rfl); (case runtl5 => (intro w' hS; (obtain ⟨dn, s, hS⟩ := hS); (obtain ⟨c0, c1, c2, c3, c4, -⟩ := (KR.out.keep hS.b).o5); clear hS; go_simp; first | done | exact rfl)); (case puttl5 => (first | (simp only [Act.put, List.setIfInBounds_toArray, List.set_cons_zero, List.set_cons_succ]; first | done | exact rfl) | rfl)); (case' nexttl5 => skip))
  (refine' GG.grow_lit (GG.BelS9.still) rfl ?wttl6 ?runtl6 ?puttl6 ?nexttl6; (case wttl6 => rfl); (case runtl6 => (intro w' hS; (obtain ⟨dn, s, hS⟩ := hS); (obtain ⟨c0, c1, c2, c3, c4, -⟩ := (KR.out.keep hS.b).o5); clear hS; go_simp; first | done | exact rfl)); (case puttl6 => (first | (simp only [Act.put, List.setIfInBounds_toArray, List.set_cons_zero, List.set_cons_succ]; first | done | exact rfl) | rfl)); (case' nexttl6 => skip))
  (refine' GG.grow_lit (GG.BelS9.still) rfl ?wttl7 ?runtl7 ?puttl7 ?nexttl7; (case wttl7 => rfl); (case runtl7 => (intro w' hS; (obtain ⟨dn, s, hS⟩ := hS); (obtain ⟨c0, c1, c2, c3, c4, -⟩ := (KR.out.keep hS.b).o5); clear hS; go_simp; first | done | exact rfl)); (case puttl7 => (first | (simp only [Act.put, List.setIfInBounds_toArray, List.set_cons_zero, List.set_cons_succ]; first | done | exact rfl) | rfl)); (case' nexttl7 => skip))
  (refine' GG.grow_lit (GG.BelS9.still) rfl ?wttl8 ?runtl8 ?puttl8 ?nexttl8; (case wttl8 => rfl); (case runtl8 => (intro w' hS; (obtain ⟨dn, s, hS⟩ := hS); (obtain ⟨c0, c1, c2, c3, c4, -⟩ := (KR.out.keep hS.b).o5); clear hS; go_simp; first | done | exact rfl)); (case puttl8 => (first | (simp only [Act.put, List.setIfInBounds_toArray, List.set_cons_zero, List.set_cons_succ]; first | done | exact rfl) | rfl)); (case' nexttl8 => skip))
  (refine' GG.grow_any_call (p := fun v _ w => ToV n x v w) (hp := fun v s w s' w' h hb => ToV.below h hb) rfl Tryz.func13 (by kernel_rfl) rfl rfl ?wttl9 ?runtl9 ?puttl9 ?nexttl9; (case wttl9 => rfl); (case runtl9 => (intro dn s w' hS hd H; exact (wTo_is (G.out.g.old hS.b) G.out.n x HSI.out.1 HSI.out.2).mono (fun e w2 ⟨v, C2, h1, h2, h3, h4⟩ => ⟨v, (), h1, ⟨C2, h3, h2⟩, ⟨hS.b.trans (h4.mono hS.b.size)⟩, h4, h4.size⟩))); (case puttl9 => (intro v; (simp only [Act.put, List.setIfInBounds_toArray, List.set_cons_zero, List.set_cons_succ]; first | done | exact rfl))); (case' nexttl9 => intro v9))
  (refine' GG.grow_lit (GG.BelS9.still) rfl ?wttl10 ?runtl10 ?puttl10 ?nexttl10; (case wttl10 => rfl); (case runtl10 => (intro w' hS; (obtain ⟨dn, s, hS⟩ := hS); (obtain ⟨c0, c1, c2, c3, c4, -⟩ := (KR.out.keep hS.b).o5); clear hS; go_simp; first | done | exact rfl)); (case puttl10 => (first | (simp only [Act.put, List.setIfInBounds_toArray, List.set_cons_zero, List.set_cons_succ]; first | done | exact rfl) | rfl)); (case' nexttl10 => skip))
  (refine' GG.grow_lit (GG.BelS9.still) rfl ?wttl11 ?runtl11 ?puttl11 ?nexttl11; (case wttl11 => rfl); (case runtl11 => (intro w' hS; (obtain ⟨dn, s, hS⟩ := hS); (obtain ⟨c0, c1, c2, c3, c4, -⟩ := (KR.out.keep hS.b).o5); clear hS; go_simp; first | done | exact rfl)); (case puttl11 => (first | (simp only [Act.put, List.setIfInBounds_toArray, List.set_cons_zero, List.set_cons_succ]; first | done | exact rfl) | rfl)); (case' nexttl11 => skip))
  (refine' GG.grow_any_call (p := fun v _ w => ToV n x v w) (hp := fun v s w s' w' h hb => ToV.below h hb) rfl Tryz.func14 (by kernel_rfl) rfl rfl ?wttl12 ?runtl12 ?puttl12 ?nexttl12; (case wttl12 => rfl); (case runtl12 => (intro dn s w' hS hd H; exact (rto_is (HRV.out.below hS.b) HGR.out).mono (fun e w2 ⟨b2, d2, h1, h2, h3, h4, h5⟩ => ⟨_, (), h1, ⟨d2, h4, h3.i64 h4.1 (by have := HGR.out.few.a; omega)⟩, ⟨hS.b.trans (h5.mono hS.b.size)⟩, h5, h5.size⟩))); (case puttl12 => (intro v; (simp only [Act.put, List.setIfInBounds_toArray, List.set_cons_zero, List.set_cons_succ]; first | done | exact rfl))); (case' nexttl12 => intro v12))
  (refine' GG.grow_lit_call (u := .bool true) rfl Tryz.func11 (by kernel_rfl) rfl rfl ?wttl13 ?runtl13 ?puttl13 ?nexttl13; (case wttl13 => rfl); (case runtl13 => (intro dn s w' hS hd H; (have hv9 : ToV n x v9 w' := H 9 (by decide)); (have hv12 : ToV n x v12 w' := H 12 (by decide)); (obtain ⟨C3, hF3, hi3⟩ := hv9); (obtain ⟨C4, hF4, hi4⟩ := hv12); exact (vsameC hi3 hi4 (by simpa using hF3.uniq hF4)).mono (fun e w2 h => ⟨(), h.1, ⟨hS.b.trans (h.2.mono hS.b.size)⟩, h.2, h.2.size⟩))); (case puttl13 => (first | (simp only [Act.put, List.setIfInBounds_toArray, List.set_cons_zero, List.set_cons_succ]; first | done | exact rfl) | rfl)); (case' nexttl13 => skip))
  (refine' GG.grow_lit (GG.BelS9.still) rfl ?wttl14 ?runtl14 ?puttl14 ?nexttl14; (case wttl14 => rfl); (case runtl14 => (intro w' hS; (obtain ⟨dn, s, hS⟩ := hS); (obtain ⟨c0, c1, c2, c3, c4, -⟩ := (KR.out.keep hS.b).o5); clear hS; go_simp; first | done | exact rfl)); (case puttl14 => (first | (simp only [Act.put, List.setIfInBounds_toArray, List.set_cons_zero, List.set_cons_succ]; first | done | exact rfl) | rfl)); (case' nexttl14 => skip))
  (refine' GG.grow_lit (GG.BelS9.still) rfl ?wttl15 ?runtl15 ?puttl15 ?nexttl15; (case wttl15 => rfl); (case runtl15 => (intro w' hS; (obtain ⟨dn, s, hS⟩ := hS); (obtain ⟨c0, c1, c2, c3, c4, -⟩ := (KR.out.keep hS.b).o5); clear hS; go_simp; first | done | exact rfl)); (case puttl15 => (first | (simp only [Act.put, List.setIfInBounds_toArray, List.set_cons_zero, List.set_cons_succ]; first | done | exact rfl) | rfl)); (case' nexttl15 => skip))
  (refine' GG.grow_lit (GG.BelS9.still) rfl ?wttl16 ?runtl16 ?puttl16 ?nexttl16; (case wttl16 => rfl); (case runtl16 => (intro w' hS; (obtain ⟨dn, s, hS⟩ := hS); (obtain ⟨c0, c1, c2, c3, c4, -⟩ := (KR.out.keep hS.b).o5); clear hS; go_simp; first | done | exact rfl)); (case puttl16 => (first | (simp only [Act.put, List.setIfInBounds_toArray, List.set_cons_zero, List.set_cons_succ]; first | done | exact rfl) | rfl)); (case' nexttl16 => skip))
  (refine' GG.grow_lit (GG.BelS9.still) rfl ?wttl17 ?runtl17 ?puttl17 ?nexttl17; (case wttl17 => rfl); (case runtl17 => (intro w' hS; (obtain ⟨dn, s, hS⟩ := hS); (obtain ⟨c0, c1, c2, c3, c4, -⟩ := (KR.out.keep hS.b).o5); clear hS; go_simp; first | done | exact rfl)); (case puttl17 => (first | (simp only [Act.put, List.setIfInBounds_toArray, List.set_cons_zero, List.set_cons_succ]; first | done | exact rfl) | rfl)); (case' nexttl17 => skip))
  (refine' GG.grow_lit (GG.BelS9.still) rfl ?wttl18 ?runtl18 ?puttl18 ?nexttl18; (case wttl18 => rfl); (case runtl18 => (intro w' hS; (obtain ⟨dn, s, hS⟩ := hS); (obtain ⟨c0, c1, c2, c3, c4, -⟩ := (KR.out.keep hS.b).o5); clear hS; go_simp; first | done | exact rfl)); (case puttl18 => (first | (simp only [Act.put, List.setIfInBounds_toArray, List.set_cons_zero, List.set_cons_succ]; first | done | exact rfl) | rfl)); (case' nexttl18 => skip))
  (refine' GG.grow_lit (GG.BelS9.still) rfl ?wttl19 ?runtl19 ?puttl19 ?nexttl19; (case wttl19 => rfl); (case runtl19 => (intro w' hS; (obtain ⟨dn, s, hS⟩ := hS); (obtain ⟨c0, c1, c2, c3, c4, -⟩ := (KR.out.keep hS.b).o5); clear hS; go_simp; first | done | exact rfl)); (case puttl19 => (first | (simp only [Act.put, List.setIfInBounds_toArray, List.set_cons_zero, List.set_cons_succ]; first | done | exact rfl) | rfl)); (case' nexttl19 => skip))
  (refine' GG.grow_lit (GG.BelS9.still) rfl ?wttl20 ?runtl20 ?puttl20 ?nexttl20; (case wttl20 => rfl); (case runtl20 => (intro w' hS; (obtain ⟨dn, s, hS⟩ := hS); (obtain ⟨c0, c1, c2, c3, c4, -⟩ := (KR.out.keep hS.b).o5); clear hS; go_simp; first | done | exact rfl)); (case puttl20 => (first | (simp only [Act.put, List.setIfInBounds_toArray, List.set_cons_zero, List.set_cons_succ]; first | done | exact rfl) | rfl)); (case' nexttl20 => skip))
  (refine' GG.grow_lit (GG.BelS9.still) rfl ?wttl21 ?runtl21 ?puttl21 ?nexttl21; (case wttl21 => rfl); (case runtl21 => (intro w' hS; (obtain ⟨dn, s, hS⟩ := hS); (obtain ⟨c0, c1, c2, c3, c4, -⟩ := (KR.out.keep hS.b).o5); clear hS; go_simp; first | done | exact rfl)); (case puttl21 => (first | (simp only [Act.put, List.setIfInBounds_toArray, List.set_cons_zero, List.set_cons_succ]; first | done | exact rfl) | rfl)); (case' nexttl21 => skip))
  (refine' GG.grow_lit (GG.BelS9.still) rfl ?wttl22 ?runtl22 ?puttl22 ?nexttl22; (case wttl22 => rfl); (case runtl22 => (intro w' hS; (obtain ⟨dn, s, hS⟩ := hS); (obtain ⟨c0, c1, c2, c3, c4, -⟩ := (KR.out.keep hS.b).o5); clear hS; go_simp; first | done | exact rfl)); (case puttl22 => (first | (simp only [Act.put, List.setIfInBounds_toArray, List.set_cons_zero, List.set_cons_succ]; first | done | exact rfl) | rfl)); (case' nexttl22 => skip))
  intro dn s9 w8 hS _ _
  have hb := hS.b
  clear hS DS0
  have KA_ := Lib.hid (KA.out.keep hb)
  have VA_ := Lib.hid (VA.out.below hb)
  have G_ := Lib.hid (G.out.old hb)
  have HRV_ := Lib.hid (HRV.out.below hb)
  have KR_ := Lib.hid (KR.out.keep hb)
  have HD0_ := Lib.hid (HD0.out.below hb)
  have HB_ := Lib.hid (HB.out.below hb)
  clear KA VA G HRV KR HD0 HB
  have KA := KA_
  have VA := VA_
  have G := G_
  have HRV := HRV_
  have KR := KR_
  have HD0 := HD0_
  have HB := HB_
  clear KA_ VA_ G_ HRV_ KR_ HD0_ HB_
  clear hb
  go_wp2_with fail
  go_loopw [9] (fun i wr => ∃ k : Nat, k ≤ n.a.length ∧ i = .int .i64 k ∧ Below w8.heap.size w8 wr) (fun i _ => n.a.length - (intOf i).toNat)
  case atStart => exact ⟨0, Nat.zero_le _, rfl, Below.refl _ _⟩
  case round =>
    obtain ⟨k, hk, rfl, hb⟩ := hrel
    have HBK := Lib.hid hb
    clear hb
    by_cases hlt : k < n.a.length
    · have hki : (k : Int) < (n.a.length : Int) := by omega
      obtain ⟨rb9, ro9, rfl, hrl, hrc⟩ := (HB.out.below HBK.out).cellsAt8 (by rw [reachL_len, HDN.out]; omega)
      obtain ⟨db9, do9, hde, hdl, hdc⟩ := (HD0.out.below HBK.out).cellsAt (by rw [HDN.out]; omega)
      injection hde with hde
      injection hde with hde1 hde2
      subst hde1 hde2
      have cr := hrc k (by rw [reachL_len, HDN.out]; omega)
      have cd := hdc k (by rw [HDN.out]; omega)
      rw [reachL_at (by rw [HDN.out]; omega)] at cr
      have hcb := HF.out.bd k hlt
      clear hrc hdc
      generalize ctL C k = cv at cr cd hcb
      rw [Nat.zero_add] at cd
      by_cases hcv : cv < 1152921504606846976
      · have hd1 : decide (cv < 1152921504606846976) = true := by simpa using hcv
        have hd2 : (cv != 1152921504606846976) = true := by simpa using (by omega : cv ≠ 1152921504606846976)
        rw [hd2] at cr
        clear hcv hd2
        go_wp2_with fail
        go_quiet (fail)
        clear cr cd hd1 hrl hdl hcb
        obtain ⟨w10, hw10⟩ := named (wr.drewN nq)
        have hb9 : Below wr.heap.size wr w10 := by rw [hw10]; exact below_drewN (Below.refl _ _) nq
        rw [← hw10]
        have HBN := Lib.hid (bOn6 HBK.out hb9)
        clear hb9 hw10
        go_wp2_with fail
        go_roundw
        case rel => exact ⟨k + 1, by omega, by go_num, HBN.out⟩
        case measure => simp [intOf]; omega
      · have hd1 : decide (cv < 1152921504606846976) = false := by simpa using hcv
        have hd2 : (cv != 1152921504606846976) = false := by simpa using (by omega : cv = 1152921504606846976)
        rw [hd2] at cr
        clear hcv hd2
        go_wp2_with fail
        go_quiet (fail)
        clear cr cd hd1 hrl hdl hcb
        obtain ⟨w10, hw10⟩ := named (wr.drewN nq)
        have hb9 : Below wr.heap.size wr w10 := by rw [hw10]; exact below_drewN (Below.refl _ _) nq
        rw [← hw10]
        have HBN := Lib.hid (bOn6 HBK.out hb9)
        clear hb9 hw10
        go_wp2_with fail
        go_roundw
        case rel => exact ⟨k + 1, by omega, by go_num, HBN.out⟩
        case measure => simp [intOf]; omega
    · obtain rfl : k = n.a.length := by omega
      go_wp2_with fail
      go_ret
      exact ⟨rfl, bOn6 G.out.b HBK.out⟩

theorem tells_law (v : Value) (n : NetD) (x : Int) (w : World) (hv : NetV w v n) (hin : InNet n) (s0 : -9223372036854775808 ≤ x) (s1 : x ≤ 9223372036854775807) :
    Calls Tryz.prog 3 #[v, .int .i64 x] w fun e w' => e = .returned (.bool true) ∧ Below w.heap.size w w' := by
  cases hs : smallN n with
  | false => exact tells_no v n x w hv hin hs
  | true => exact tells_yes v n x w hv hin hs s0 s1

set_option maxRecDepth 100000 in
theorem walkTells_walks : WalksP 3 Tryz.f3 := by
  intro H enc W args ds g
  obtain ⟨ps, hA⟩ := g.reads
  obtain ⟨base, hval⟩ := g.okay
  rw [Tryz.params3] at hA hval
  obtain ⟨v0, vs0, d0, ds0, p0, q0, hargs, rfl, rfl, h0, r0⟩ := trodAll_cons hA
  obtain ⟨v1, vs1, d1, ds1, p1, q1, rfl, rfl, rfl, h1, r1⟩ := trodAll_cons r0
  obtain ⟨rfl, rfl, rfl⟩ := trodAll_nil r1
  obtain rfl : args = #[v0, v1] := Array.toList_inj.1 hargs
  obtain ⟨n0, w0, u0⟩ := open_net (hval 0 26 v0 rfl rfl) h0
  obtain ⟨x1, rfl, rfl, rfl, w1⟩ := open_int Tryz.underlying3 (hval 1 3 v1 rfl rfl) h1
  exact tells_law v0 n0 x1 W w0 u0 (wf64 w1).1 (wf64 w1).2

theorem walkTells_row : Rows.WalkTellsSaid :=
  OpenClaim.holds_of_wide 3 Tryz.f3 rfl rfl rfl rfl rfl rfl rfl ⟨rfl, rfl, rfl, rfl, rfl⟩ rfl rfl rfl rfl rfl (by kernel_rfl) Tryz.func3 (by kernel_rfl)
    (of_decide_eq_true (by kernel_rfl)) (by unfold Func.isWrapper; rw [if_neg (of_decide_eq_false (by kernel_rfl))]; exact ⟨rfl, rfl⟩)
    (fun os started H enc _ => law_plain (s := Rows.walkTellsSpec) Tryz.func3 (by kernel_rfl) rfl (by kernel_rfl)
      (fun H ds hl => by
        rw [Tryz.params3] at hl
        match ds, hl with
        | [_, _], _ => exact ⟨rfl, rfl, rfl⟩)
      (by kernel_rfl) os started H enc
      (ChangeSpec.witness6 (enc := enc) (C := Tryz.checked) false ⟨#[], #[.agg #[.slice none 0 0, .slice none 0 0, .slice none 0 0], .int .i64 0], []⟩ 8 (by kernel_rfl) (by kernel_rfl) (by kernel_rfl) (by kernel_rfl))
      walkTells_walks)
#print axioms walkTells_row

end Go.Proofs.YtgihaakgadmidaaGreat
