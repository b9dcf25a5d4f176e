/-
  PROVED: a cost that is put into a table that may be stands there, and nothing else is another one; put twice the second counts; put back all is as it was. For every table, place and two costs. Conditions: the listed library variable holds what the program's own text lays (the card ties it).
-/
import Derived.Test.YtboimdgldjimpaaDoorOwnT
import Derived.Test.YtboimdgldjimpaaDoorGrowX
import Derived.Test.YtboimdgldjimpaaDoorLaid2
import Derived.Test.YtboimdgldjimpaaDoorCards
import Derived.Test.YtboimdgldjimpaaDoorTie
import Derived.SevenTiedAt
namespace Go.Proofs.YtboimdgldjimpaaDoor
open Go.ChangeShapes Go.WideShapes Go.ChangeAt Go.RowKit

set_option maxHeartbeats 4000000 in
set_option maxRecDepth 100000 in
theorem sets_long (v : Value) (I O : Int) (ul : Value) (l : List Int) (x y c d : Int) (w : World) (hg : ErrT w) (hv : TabIn w v I O ul l) (h : 300 < l.length) :
    Calls Tryd.prog 5 #[v, .int .i64 x, .int .i64 y, .int .i64 c, .int .i64 d] w fun e w' => e = .returned (.bool true) ∧ Below w.heap.size w w' := by
  obtain ⟨rfl, hl, inl, hI, hO⟩ := hv
  obtain ⟨lq, lc, rfl⟩ := hl.shape
  have d1 : decide ((300 : Int) < (l.length : Int)) = true := by simp; omega
  clear h
  go_enter Tryd.func5, Tryd.ntmps5
  go_wp2_with fail
  obtain ⟨W0, hW0⟩ := named (w.alloc (.cells #[.int .i64 I, .int .i64 O, .slice lq l.length lc] 24))
  rw [← hW0]
  have hc0 : Below w.heap.size w W0 := by rw [hW0]; exact below_alloc1 _
  have B0 := Lib.hid hc0
  have KA : Hid (Blk W0 (w.heap.size) #[.int .i64 I, .int .i64 O, .slice lq l.length lc] 24) := by rw [hW0]; exact Lib.hid (Blk.new _ _ _ _ rfl)
  have TL := Lib.hid (hl.below hc0)
  have HG := Lib.hid (hg.keep hc0)
  clear hc0 hW0 hl hg
  refine (known2_any _ HG.out).mono ?_
  rintro e w1 ⟨rfl, hb⟩
  have hd1 : Below W0.heap.size W0 w1 := hb
  have KA_ := Lib.hid (KA.out.keep hd1)
  have TL_ := Lib.hid (TL.out.below hd1)
  have HG_ := Lib.hid (HG.out.keep hd1)
  clear KA TL HG
  have KA := KA_
  have TL := TL_
  have HG := HG_
  clear KA_ TL_ HG_
  have B1 : Hid (Below w.heap.size w w1) := Lib.hid (B0.out.trans (hd1.mono B0.out.size))
  clear B0
  have B0 := B1
  clear B1
  clear hb hd1 
  obtain ⟨p0, p1, p2, -, -, -⟩ := KA.out.o3
  go_wp2_with fail
  go_ret
  exact ⟨rfl, B0.out⟩

set_option maxHeartbeats 4000000 in
set_option maxRecDepth 100000 in
theorem sets_bad (v : Value) (I O : Int) (ul : Value) (l : List Int) (x y c d : Int) (w : World) (hg : ErrT w) (hv : TabIn w v I O ul l) (h1 : l.length ≤ 300) (hck : ¬ (chkT I O l).2 = 0) :
    Calls Tryd.prog 5 #[v, .int .i64 x, .int .i64 y, .int .i64 c, .int .i64 d] w fun e w' => e = .returned (.bool true) ∧ Below w.heap.size w w' := by
  obtain ⟨rfl, hl, inl, hI, hO⟩ := hv
  obtain ⟨lq, lc, rfl⟩ := hl.shape
  have hfe := field_err
  have d1 : decide ((300 : Int) < (l.length : Int)) = false := by simp; omega
  have hck' : ((chkT I O l).2 == 0) = false := by simpa using hck
  go_enter Tryd.func5, Tryd.ntmps5
  go_wp2_with fail
  obtain ⟨W0, hW0⟩ := named (w.alloc (.cells #[.int .i64 I, .int .i64 O, .slice lq l.length lc] 24))
  rw [← hW0]
  have hc0 : Below w.heap.size w W0 := by rw [hW0]; exact below_alloc1 _
  have B0 := Lib.hid hc0
  have KA : Hid (Blk W0 (w.heap.size) #[.int .i64 I, .int .i64 O, .slice lq l.length lc] 24) := by rw [hW0]; exact Lib.hid (Blk.new _ _ _ _ rfl)
  have TL := Lib.hid (hl.below hc0)
  have HG := Lib.hid (hg.keep hc0)
  clear hc0 hW0 hl hg
  refine (known2_any _ HG.out).mono ?_
  rintro e w1 ⟨rfl, hb⟩
  obtain ⟨p0, p1, p2, -, -, -⟩ := (KA.out.keep hb).o3
  go_wp2_with fail
  clear p0 p1 p2
  have hd1 : Below W0.heap.size W0 w1 := hb
  have KA_ := Lib.hid (KA.out.keep hd1)
  have TL_ := Lib.hid (TL.out.below hd1)
  have HG_ := Lib.hid (HG.out.keep hd1)
  clear KA TL HG
  have KA := KA_
  have TL := TL_
  have HG := HG_
  clear KA_ TL_ HG_
  have B1 : Hid (Below w.heap.size w w1) := Lib.hid (B0.out.trans (hd1.mono B0.out.size))
  clear B0
  have B0 := B1
  clear B1
  clear hb hd1 
  refine (rcheck_any I O _ l _ TL.out inl).mono ?_
  rintro e w2 ⟨wv, rfl, hW, hb⟩
  obtain ⟨gq, gn, gc, rfl⟩ := hW.shape
  have hd2 : Below w1.heap.size w1 w2 := hb
  have KA_ := Lib.hid (KA.out.keep hd2)
  have TL_ := Lib.hid (TL.out.below hd2)
  have HG_ := Lib.hid (HG.out.keep hd2)
  clear KA TL HG
  have KA := KA_
  have TL := TL_
  have HG := HG_
  clear KA_ TL_ HG_
  have B1 : Hid (Below w.heap.size w w2) := Lib.hid (B0.out.trans (hd2.mono B0.out.size))
  clear B0
  have B0 := B1
  clear B1
  clear hb hd2 hW
  obtain ⟨p0, p1, p2, -, -, -⟩ := KA.out.o3
  go_wp2_with fail
  go_ret
  exact ⟨rfl, B0.out⟩

set_option maxHeartbeats 4000000 in
set_option maxRecDepth 100000 in
theorem sets_out (v : Value) (I O : Int) (ul : Value) (l : List Int) (x y c d : Int) (w : World) (hg : ErrT w) (hv : TabIn w v I O ul l) (h1 : l.length ≤ 300) (hck : chkT I O l = (0, 0))
    (h : (decide (x < 0) = true) ∨ (decide (x < 0) = false ∧ decide (I ≤ x) = true) ∨ (decide (x < 0) = false ∧ decide (I ≤ x) = false ∧ decide (y < 0) = true) ∨ (decide (x < 0) = false ∧ decide (I ≤ x) = false ∧ decide (y < 0) = false ∧ decide (O ≤ y) = true)) :
    Calls Tryd.prog 5 #[v, .int .i64 x, .int .i64 y, .int .i64 c, .int .i64 d] w fun e w' => e = .returned (.bool true) ∧ Below w.heap.size w w' := by
  obtain ⟨rfl, hl, inl, hI, hO⟩ := hv
  obtain ⟨lq, lc, rfl⟩ := hl.shape
  have hfe := field_err
  have d1 : decide ((300 : Int) < (l.length : Int)) = false := by simp; omega
  have HCK := Lib.hid hck
  clear hck
  have HD := Lib.hid h
  clear h
  go_enter Tryd.func5, Tryd.ntmps5
  go_wp2_with fail
  obtain ⟨W0, hW0⟩ := named (w.alloc (.cells #[.int .i64 I, .int .i64 O, .slice lq l.length lc] 24))
  rw [← hW0]
  have hc0 : Below w.heap.size w W0 := by rw [hW0]; exact below_alloc1 _
  have B0 := Lib.hid hc0
  have KA : Hid (Blk W0 (w.heap.size) #[.int .i64 I, .int .i64 O, .slice lq l.length lc] 24) := by rw [hW0]; exact Lib.hid (Blk.new _ _ _ _ rfl)
  have TL := Lib.hid (hl.below hc0)
  have HG := Lib.hid (hg.keep hc0)
  clear hc0 hW0 hl hg
  refine (known2_any _ HG.out).mono ?_
  rintro e w1 ⟨rfl, hb⟩
  obtain ⟨p0, p1, p2, -, -, -⟩ := (KA.out.keep hb).o3
  go_wp2_with fail
  clear p0 p1 p2
  have hd1 : Below W0.heap.size W0 w1 := hb
  have KA_ := Lib.hid (KA.out.keep hd1)
  have TL_ := Lib.hid (TL.out.below hd1)
  have HG_ := Lib.hid (HG.out.keep hd1)
  clear KA TL HG
  have KA := KA_
  have TL := TL_
  have HG := HG_
  clear KA_ TL_ HG_
  have B1 : Hid (Below w.heap.size w w1) := Lib.hid (B0.out.trans (hd1.mono B0.out.size))
  clear B0
  have B0 := B1
  clear B1
  clear hb hd1 
  refine (rcheck_any I O _ l _ TL.out inl).mono ?_
  rintro e w2 ⟨wv, rfl, hW, hb⟩
  rw [HCK.out] at hW
  have hW0 : WrongV w2 wv [] 0 := hW
  obtain ⟨gq, gc, rfl⟩ := hW0.none
  have hd2 : Below w1.heap.size w1 w2 := hb
  have KA_ := Lib.hid (KA.out.keep hd2)
  have TL_ := Lib.hid (TL.out.below hd2)
  have HG_ := Lib.hid (HG.out.keep hd2)
  clear KA TL HG
  have KA := KA_
  have TL := TL_
  have HG := HG_
  clear KA_ TL_ HG_
  have B1 : Hid (Below w.heap.size w w2) := Lib.hid (B0.out.trans (hd2.mono B0.out.size))
  clear B0
  have B0 := B1
  clear B1
  clear hb hd2 hW hW0
  obtain ⟨p0, p1, p2, -, -, -⟩ := KA.out.o3
  rcases HD.out with e1 | ⟨e1, e2⟩ | ⟨e1, e2, e3⟩ | ⟨e1, e2, e3, e4⟩
  all_goals
    clear HD
    go_wp2_with fail
    go_ret
    exact ⟨rfl, B0.out⟩

set_option maxHeartbeats 4000000 in
set_option maxRecDepth 100000 in
theorem sets_wgt (v : Value) (I O : Int) (ul : Value) (l : List Int) (x y c d : Int) (w : World) (hg : ErrT w) (hv : TabIn w v I O ul l) (h1 : l.length ≤ 300) (hck : chkT I O l = (0, 0)) (hx : 0 ≤ x ∧ x < I ∧ 0 ≤ y ∧ y < O) (c0 : -9223372036854775808 ≤ c ∧ c ≤ 9223372036854775807) (d0 : -9223372036854775808 ≤ d ∧ d ≤ 9223372036854775807)
    (h : wgt c = false ∨ wgt c = true ∧ wgt d = false) :
    Calls Tryd.prog 5 #[v, .int .i64 x, .int .i64 y, .int .i64 c, .int .i64 d] w fun e w' => e = .returned (.bool true) ∧ Below w.heap.size w w' := by
  obtain ⟨rfl, hl, inl, hI, hO⟩ := hv
  obtain ⟨lq, lc, rfl⟩ := hl.shape
  have hfe := field_err
  have d1 : decide ((300 : Int) < (l.length : Int)) = false := by simp; omega
  have e1 : decide (x < 0) = false := by simp; omega
  have e2 : decide (I ≤ x) = false := by simp; omega
  have e3 : decide (y < 0) = false := by simp; omega
  have e4 : decide (O ≤ y) = false := by simp; omega
  have HCK := Lib.hid hck
  have HD := Lib.hid h
  have C0 := Lib.hid c0
  have D0 := Lib.hid d0
  clear hck h c0 d0 hx
  go_enter Tryd.func5, Tryd.ntmps5
  go_wp2_with fail
  obtain ⟨W0, hW0⟩ := named (w.alloc (.cells #[.int .i64 I, .int .i64 O, .slice lq l.length lc] 24))
  rw [← hW0]
  have hc0 : Below w.heap.size w W0 := by rw [hW0]; exact below_alloc1 _
  have B0 := Lib.hid hc0
  have KA : Hid (Blk W0 (w.heap.size) #[.int .i64 I, .int .i64 O, .slice lq l.length lc] 24) := by rw [hW0]; exact Lib.hid (Blk.new _ _ _ _ rfl)
  have TL := Lib.hid (hl.below hc0)
  have HG := Lib.hid (hg.keep hc0)
  clear hc0 hW0 hl hg
  refine (known2_any _ HG.out).mono ?_
  rintro e w1 ⟨rfl, hb⟩
  obtain ⟨p0, p1, p2, -, -, -⟩ := (KA.out.keep hb).o3
  go_wp2_with fail
  clear p0 p1 p2
  have hd1 : Below W0.heap.size W0 w1 := hb
  have KA_ := Lib.hid (KA.out.keep hd1)
  have TL_ := Lib.hid (TL.out.below hd1)
  have HG_ := Lib.hid (HG.out.keep hd1)
  clear KA TL HG
  have KA := KA_
  have TL := TL_
  have HG := HG_
  clear KA_ TL_ HG_
  have B1 : Hid (Below w.heap.size w w1) := Lib.hid (B0.out.trans (hd1.mono B0.out.size))
  clear B0
  have B0 := B1
  clear B1
  clear hb hd1 
  refine (rcheck_any I O _ l _ TL.out inl).mono ?_
  rintro e w2 ⟨wv, rfl, hW, hb⟩
  rw [HCK.out] at hW
  have hW0 : WrongV w2 wv [] 0 := hW
  obtain ⟨gq, gc, rfl⟩ := hW0.none
  obtain ⟨p0, p1, p2, -, -, -⟩ := (KA.out.keep hb).o3
  go_wp2_with fail
  clear p0 p1 p2
  have hd2 : Below w1.heap.size w1 w2 := hb
  have KA_ := Lib.hid (KA.out.keep hd2)
  have TL_ := Lib.hid (TL.out.below hd2)
  have HG_ := Lib.hid (HG.out.keep hd2)
  clear KA TL HG
  have KA := KA_
  have TL := TL_
  have HG := HG_
  clear KA_ TL_ HG_
  have B1 : Hid (Below w.heap.size w w2) := Lib.hid (B0.out.trans (hd2.mono B0.out.size))
  clear B0
  have B0 := B1
  clear B1
  clear hb hd2 hW hW0
  rcases HD.out with f1 | ⟨f1, f2⟩
  · refine (rweight_is c false _ C0.out.1 C0.out.2 f1).mono ?_
    rintro e w' ⟨rfl, rfl⟩
    clear f1 HD
    go_wp2_with fail
    go_ret
    exact ⟨rfl, B0.out⟩
  · refine (rweight_is c true _ C0.out.1 C0.out.2 f1).mono ?_
    rintro e w' ⟨rfl, rfl⟩
    clear HD
    have F2 := Lib.hid f2
    clear f1 f2
    go_wp2_with fail
    refine (rweight_is d false _ D0.out.1 D0.out.2 F2.out).mono ?_
    rintro e w' ⟨rfl, rfl⟩
    go_wp2_with fail
    go_ret
    exact ⟨rfl, B0.out⟩

set_option maxHeartbeats 4000000 in
set_option maxRecDepth 100000 in
theorem sets_ok (v : Value) (NI NO : Nat) (ul : Value) (l : List Int) (x y c d : Int) (w : World) (hg : ErrT w) (hv : TabIn w v NI NO ul l) (h1 : l.length ≤ 300) (hck : chkT NI NO l = (0, 0)) (hx : 0 ≤ x ∧ x < NI ∧ 0 ≤ y ∧ y < NO) (hc : wgt c = true) (hd : wgt d = true) :
    Calls Tryd.prog 5 #[v, .int .i64 x, .int .i64 y, .int .i64 c, .int .i64 d] w fun e w' => e = .returned (.bool true) ∧ Below w.heap.size w w' := by
  obtain ⟨rfl, hl, inl, hI, hO⟩ := hv
  obtain ⟨lq, lc, rfl⟩ := hl.shape
  obtain ⟨I, eI⟩ : ∃ I : Int, I = NI := ⟨_, rfl⟩
  obtain ⟨O, eO⟩ : ∃ O : Int, O = NO := ⟨_, rfl⟩
  rw [← eI, ← eO] at hck hx
  rw [← eI, ← eO]
  have hfe := field_err
  have d1 : decide ((300 : Int) < (l.length : Int)) = false := by simp; omega
  obtain ⟨i0, i1, o0, o1, hn, -⟩ := chkT_ok (I := I) (O := O) (l := l) (by rw [hck])
  obtain ⟨la, ela⟩ : ∃ la, l.set (x * O + y).toNat c = la := ⟨_, rfl⟩
  obtain ⟨lb, elb⟩ : ∃ lb, la.set (x * O + y).toNat d = lb := ⟨_, rfl⟩
  obtain ⟨T, eT⟩ : ∃ T, turnAt I O l x y = T := ⟨_, rfl⟩
  have hna : la.length = l.length := by rw [← ela, List.length_set]
  have hnb : lb.length = l.length := by rw [← elb, List.length_set, hna]
  have hnA : (la.length : Int) = I * O := by rw [hna]; exact hn
  have hnB : (lb.length : Int) = I * O := by rw [hnb]; exact hn
  have hcka : chkT I O la = (0, 0) := by rw [← ela]; exact chkT_set hck _ _ hc
  have hckb : chkT I O lb = (0, 0) := by rw [← elb]; exact chkT_set hcka _ _ hd
  obtain ⟨c0, c1⟩ := wgt_in hc
  obtain ⟨d0, d2⟩ := wgt_in hd
  have hw : wgt T = true := by rw [← eT]; exact turnAt_wgt hck hx
  obtain ⟨t0, t1⟩ := wgt_in hw
  have inA : In64 la := by rw [← ela]; exact mem_set_in inl ⟨by omega, by omega⟩
  have inB : In64 lb := by rw [← elb]; exact mem_set_in inA ⟨by omega, by omega⟩
  have elz : lb.set (x * O + y).toNat T = l := by rw [← elb, ← ela, ← eT]; exact set_back hn hx
  have hta : ∀ n q : Int, 0 ≤ n → n < I → 0 ≤ q → q < O → turnAt I O la n q = if n = x ∧ q = y then c else turnAt I O l n q := fun n q a b e f => by rw [← ela]; exact turnAt_set hn hx ⟨a, b, e, f⟩
  have htb : turnAt I O lb x y = d := by rw [← elb, turnAt_set hnA hx hx, if_pos ⟨rfl, rfl⟩]
  have e1 : decide (x < 0) = false := by simp; omega
  have e2 : decide (I ≤ x) = false := by simp; omega
  have e3 : decide (y < 0) = false := by simp; omega
  have e4 : decide (O ≤ y) = false := by simp; omega
  have HN := Lib.hid hn
  have HNA := Lib.hid hnA
  have HNB := Lib.hid hnB
  have HS := Lib.hid (And.intro i0 (And.intro i1 (And.intro o0 o1)))
  have HX := Lib.hid hx
  have HCK := Lib.hid hck
  have HCKA := Lib.hid hcka
  have HCKB := Lib.hid hckb
  have HC := Lib.hid hc
  have HD := Lib.hid hd
  have HTW := Lib.hid hw
  have ELA := Lib.hid ela
  have ELB := Lib.hid elb
  have ELZ := Lib.hid elz
  have ET := Lib.hid eT
  have HTA := Lib.hid hta
  have HTB := Lib.hid htb
  have EI := Lib.hid eI
  have EO := Lib.hid eO
  have HLA := Lib.hid hna
  have HLB := Lib.hid hnb
  have l0 : (NI : Int) ≤ 16 := by omega
  have l1 : (NO : Int) ≤ 16 := by omega
  clear hn hnA hnB hx hck hcka hckb hc hd hw ela elb elz eT hta htb eI eO hna hnb hI hO
  go_enter Tryd.func5, Tryd.ntmps5
  go_wp2_with fail
  obtain ⟨W0, hW0⟩ := named (w.alloc (.cells #[.int .i64 I, .int .i64 O, .slice lq l.length lc] 24))
  rw [← hW0]
  have hc0 : Below w.heap.size w W0 := by rw [hW0]; exact below_alloc1 _
  have B0 := Lib.hid hc0
  have KA : Hid (Blk W0 (w.heap.size) #[.int .i64 I, .int .i64 O, .slice lq l.length lc] 24) := by rw [hW0]; exact Lib.hid (Blk.new _ _ _ _ rfl)
  have TL := Lib.hid (hl.below hc0)
  have HG := Lib.hid (hg.keep hc0)
  clear hc0 hW0 hl hg
  refine (known2_any _ HG.out).mono ?_
  rintro e w1 ⟨rfl, hb⟩
  obtain ⟨p0, p1, p2, -, -, -⟩ := (KA.out.keep hb).o3
  go_wp2_with fail
  clear p0 p1 p2
  have hd1 : Below W0.heap.size W0 w1 := hb
  have KA_ := Lib.hid (KA.out.keep hd1)
  have TL_ := Lib.hid (TL.out.below hd1)
  have HG_ := Lib.hid (HG.out.keep hd1)
  clear KA TL HG
  have KA := KA_
  have TL := TL_
  have HG := HG_
  clear KA_ TL_ HG_
  have B1 : Hid (Below w.heap.size w w1) := Lib.hid (B0.out.trans (hd1.mono B0.out.size))
  clear B0
  have B0 := B1
  clear B1
  clear hb hd1 
  refine (rcheck_any I O _ l _ TL.out inl).mono ?_
  rintro e w2 ⟨wv, rfl, hW, hb⟩
  rw [HCK.out] at hW
  have hW0 : WrongV w2 wv [] 0 := hW
  obtain ⟨gq, gc, rfl⟩ := hW0.none
  obtain ⟨p0, p1, p2, -, -, -⟩ := (KA.out.keep hb).o3
  go_wp2_with fail
  clear p0 p1 p2
  have hd2 : Below w1.heap.size w1 w2 := hb
  have KA_ := Lib.hid (KA.out.keep hd2)
  have TL_ := Lib.hid (TL.out.below hd2)
  have HG_ := Lib.hid (HG.out.keep hd2)
  clear KA TL HG
  have KA := KA_
  have TL := TL_
  have HG := HG_
  clear KA_ TL_ HG_
  have B1 : Hid (Below w.heap.size w w2) := Lib.hid (B0.out.trans (hd2.mono B0.out.size))
  clear B0
  have B0 := B1
  clear B1
  clear hb hd2 hW hW0
  refine (rweight_is c true _ (by omega) (by omega) HC.out).mono ?_
  rintro e w' ⟨rfl, rfl⟩
  go_wp2_with fail
  refine (rweight_is d true _ (by omega) (by omega) HD.out).mono ?_
  rintro e w' ⟨rfl, rfl⟩
  obtain ⟨p0, p1, p2, -, -, -⟩ := KA.out.o3
  go_wp2_with fail
  clear p0 p1 p2
  refine (to_any I O _ l _ (by omega) TL.out).mono ?_
  rintro e w3 ⟨tv, rfl, ⟨tu, rfl, hT⟩, hb⟩
  obtain ⟨tq, tc, rfl⟩ := hT.shape
  go_wp2_with fail
  obtain ⟨W3, hW3⟩ := named (w3.alloc (.cells #[.int .i64 I, .int .i64 O, .slice tq l.length tc] 34))
  rw [← hW3]
  have hc3 : Below w3.heap.size w3 W3 := by rw [hW3]; exact below_alloc1 _
  have hd3 : Below w2.heap.size w2 W3 := hb.trans (hc3.mono hb.size)
  have KA_ := Lib.hid (KA.out.keep hd3)
  have TL_ := Lib.hid (TL.out.below hd3)
  have HG_ := Lib.hid (HG.out.keep hd3)
  clear KA TL HG
  have KA := KA_
  have TL := TL_
  have HG := HG_
  clear KA_ TL_ HG_
  have B1 : Hid (Below w.heap.size w W3) := Lib.hid (B0.out.trans (hd3.mono B0.out.size))
  clear B0
  have B0 := B1
  clear B1
  have KS : Hid (Blk W3 (w3.heap.size) #[.int .i64 I, .int .i64 O, .slice tq l.length tc] 34) := by rw [hW3]; exact Lib.hid (Blk.new _ _ _ _ rfl)
  have TS := Lib.hid (hT.below hc3)
  clear hb hT hd3 hc3 hW3 
  refine (twith_set I O _ l x y c la _ HCK.out TS.out inl HX.out HC.out ELA.out).mono ?_
  rintro e w4 ⟨tv, rfl, ⟨au, rfl, hT⟩, hb⟩
  obtain ⟨aq, ac, rfl⟩ := hT.shape
  go_wp2_with fail
  obtain ⟨W4, hW4⟩ := named (w4.alloc (.cells #[.int .i64 I, .int .i64 O, .slice aq la.length ac] 34))
  rw [← hW4]
  have hc4 : Below w4.heap.size w4 W4 := by rw [hW4]; exact below_alloc1 _
  have hd4 : Below W3.heap.size W3 W4 := hb.trans (hc4.mono hb.size)
  have KA_ := Lib.hid (KA.out.keep hd4)
  have TL_ := Lib.hid (TL.out.below hd4)
  have HG_ := Lib.hid (HG.out.keep hd4)
  have KS_ := Lib.hid (KS.out.keep hd4)
  have TS_ := Lib.hid (TS.out.below hd4)
  clear KA TL HG KS TS
  have KA := KA_
  have TL := TL_
  have HG := HG_
  have KS := KS_
  have TS := TS_
  clear KA_ TL_ HG_ KS_ TS_
  have B1 : Hid (Below w.heap.size w W4) := Lib.hid (B0.out.trans (hd4.mono B0.out.size))
  clear B0
  have B0 := B1
  clear B1
  have KX : Hid (Blk W4 (w4.heap.size) #[.int .i64 I, .int .i64 O, .slice aq la.length ac] 34) := by rw [hW4]; exact Lib.hid (Blk.new _ _ _ _ rfl)
  have TA := Lib.hid (hT.below hc4)
  clear hb hT hd4 hc4 hW4 
  refine (twith_set I O _ la x y d lb _ HCKA.out TA.out inA HX.out HD.out ELB.out).mono ?_
  rintro e w5 ⟨tv, rfl, ⟨bu, rfl, hT⟩, hb⟩
  obtain ⟨bq, bc, rfl⟩ := hT.shape
  go_wp2_with fail
  obtain ⟨W5, hW5⟩ := named (w5.alloc (.cells #[.int .i64 I, .int .i64 O, .slice bq lb.length bc] 34))
  rw [← hW5]
  have hc5 : Below w5.heap.size w5 W5 := by rw [hW5]; exact below_alloc1 _
  have hd5 : Below W4.heap.size W4 W5 := hb.trans (hc5.mono hb.size)
  have KA_ := Lib.hid (KA.out.keep hd5)
  have TL_ := Lib.hid (TL.out.below hd5)
  have HG_ := Lib.hid (HG.out.keep hd5)
  have KS_ := Lib.hid (KS.out.keep hd5)
  have TS_ := Lib.hid (TS.out.below hd5)
  have KX_ := Lib.hid (KX.out.keep hd5)
  have TA_ := Lib.hid (TA.out.below hd5)
  clear KA TL HG KS TS KX TA
  have KA := KA_
  have TL := TL_
  have HG := HG_
  have KS := KS_
  have TS := TS_
  have KX := KX_
  have TA := TA_
  clear KA_ TL_ HG_ KS_ TS_ KX_ TA_
  have B1 : Hid (Below w.heap.size w W5) := Lib.hid (B0.out.trans (hd5.mono B0.out.size))
  clear B0
  have B0 := B1
  clear B1
  have KY : Hid (Blk W5 (w5.heap.size) #[.int .i64 I, .int .i64 O, .slice bq lb.length bc] 34) := by rw [hW5]; exact Lib.hid (Blk.new _ _ _ _ rfl)
  have TB := Lib.hid (hT.below hc5)
  clear hb hT hd5 hc5 hW5 
  have hGS : Grows (fun w' => Below W5.heap.size W5 w') := Grows.below W5
  refine' wp_thenX _ 12 [10] (fun w' => Below W5.heap.size W5 w') [[], [], [], [], [], [], [3, 4, 5], [0, 1, 2, 6], [7], [8], [8], []] (Fact.lit _ :: Fact.lit _ :: Fact.lit _ :: Fact.lit _ :: Fact.lit _ :: Fact.lit _ :: Fact.lit _ :: Fact.prop _ _ :: Fact.prop _ _ :: Fact.prop _ _ :: Fact.lit _ :: Fact.fresh _ _ :: []) (by kernel_rfl) rfl (by kernel_rfl) (fun _ _ _ _ _ h => h) (Below.refl _ _).drew ?pureeight ?seqeight
  case' seqeight => skip
  (first | (refine' grow_skip rfl ?wt1 ?put1 ?next1; (case wt1 => rfl)) | (refine' grow_lit rfl ?wt1 ?run1 ?put1 ?next1; (case wt1 => rfl); (case run1 => (intro w' hS H; clear H; (obtain ⟨a0, a1, a2, -, -, -⟩ := (KS.out.keep hS).o3); (obtain ⟨b0, b1, b2, -, -, -⟩ := (KY.out.keep hS).o3); clear hS; go_simp; first | done | exact rfl)))); (case put1 => (simp only [Act.put, List.setIfInBounds_toArray, List.set_cons_zero, List.set_cons_succ]; first | done | exact rfl)); (case' next1 => skip)
  (first | (refine' grow_skip rfl ?wt2 ?put2 ?next2; (case wt2 => rfl)) | (refine' grow_lit rfl ?wt2 ?run2 ?put2 ?next2; (case wt2 => rfl); (case run2 => (intro w' hS H; clear H; (obtain ⟨a0, a1, a2, -, -, -⟩ := (KS.out.keep hS).o3); (obtain ⟨b0, b1, b2, -, -, -⟩ := (KY.out.keep hS).o3); clear hS; go_simp; first | done | exact rfl)))); (case put2 => (simp only [Act.put, List.setIfInBounds_toArray, List.set_cons_zero, List.set_cons_succ]; first | done | exact rfl)); (case' next2 => skip)
  (first | (refine' grow_skip rfl ?wt3 ?put3 ?next3; (case wt3 => rfl)) | (refine' grow_lit rfl ?wt3 ?run3 ?put3 ?next3; (case wt3 => rfl); (case run3 => (intro w' hS H; clear H; (obtain ⟨a0, a1, a2, -, -, -⟩ := (KS.out.keep hS).o3); (obtain ⟨b0, b1, b2, -, -, -⟩ := (KY.out.keep hS).o3); clear hS; go_simp; first | done | exact rfl)))); (case put3 => (simp only [Act.put, List.setIfInBounds_toArray, List.set_cons_zero, List.set_cons_succ]; first | done | exact rfl)); (case' next3 => skip)
  (first | (refine' grow_skip rfl ?wt4 ?put4 ?next4; (case wt4 => rfl)) | (refine' grow_lit rfl ?wt4 ?run4 ?put4 ?next4; (case wt4 => rfl); (case run4 => (intro w' hS H; clear H; (obtain ⟨a0, a1, a2, -, -, -⟩ := (KS.out.keep hS).o3); (obtain ⟨b0, b1, b2, -, -, -⟩ := (KY.out.keep hS).o3); clear hS; go_simp; first | done | exact rfl)))); (case put4 => (simp only [Act.put, List.setIfInBounds_toArray, List.set_cons_zero, List.set_cons_succ]; first | done | exact rfl)); (case' next4 => skip)
  (first | (refine' grow_skip rfl ?wt5 ?put5 ?next5; (case wt5 => rfl)) | (refine' grow_lit rfl ?wt5 ?run5 ?put5 ?next5; (case wt5 => rfl); (case run5 => (intro w' hS H; clear H; (obtain ⟨a0, a1, a2, -, -, -⟩ := (KS.out.keep hS).o3); (obtain ⟨b0, b1, b2, -, -, -⟩ := (KY.out.keep hS).o3); clear hS; go_simp; first | done | exact rfl)))); (case put5 => (simp only [Act.put, List.setIfInBounds_toArray, List.set_cons_zero, List.set_cons_succ]; first | done | exact rfl)); (case' next5 => skip)
  (first | (refine' grow_skip rfl ?wt6 ?put6 ?next6; (case wt6 => rfl)) | (refine' grow_lit rfl ?wt6 ?run6 ?put6 ?next6; (case wt6 => rfl); (case run6 => (intro w' hS H; clear H; (obtain ⟨a0, a1, a2, -, -, -⟩ := (KS.out.keep hS).o3); (obtain ⟨b0, b1, b2, -, -, -⟩ := (KY.out.keep hS).o3); clear hS; go_simp; first | done | exact rfl)))); (case put6 => (simp only [Act.put, List.setIfInBounds_toArray, List.set_cons_zero, List.set_cons_succ]; first | done | exact rfl)); (case' next6 => skip)
  (refine' grow_call (u := .int .i64 T) rfl Tryd.func17 (by kernel_rfl) rfl hGS rfl ?wt35 ?run35 ?put35 ?next35; (case wt35 => rfl); (case run35 => (intro w' hS H; exact tat_is I O _ l x y T w' HS.out HN.out (TS.out.below hS) ET.out)); (case put35 => (simp only [Act.put, List.setIfInBounds_toArray, List.set_cons_zero, List.set_cons_succ]; first | done | exact rfl)); (case' next35 => skip))
  (refine' grow_callP (p := WithR I O l) (hp := fun v w w' h hb => h.below hb) rfl Tryd.func15 (by kernel_rfl) rfl hGS rfl ?wt36 ?run36 ?put36 ?next36; (case wt36 => rfl); (case run36 => (intro w' hS H; exact twith_own I O _ lb x y T l w' HCKB.out (TB.out.below hS) inB HX.out HTW.out ELZ.out)); (case put36 => (intro v; simp only [Act.put, List.setIfInBounds_toArray, List.set_cons_zero, List.set_cons_succ]; first | done | exact rfl)); (case' next36 => intro v7))
  (refine' grow_prop (p := WithR I O l) (hp := fun v w w' h hb => h.below hb) rfl ?wte8 ?rune8 ?pute8 ?nexte8; (case wte8 => rfl); (case rune8 => (intro w' hS H; (have hv : WithR I O l v7 w' := H 7 (by decide)); refine ⟨v7, ?_, hv⟩; clear H hv hS; go_simp)); (case pute8 => (intro v; simp only [Act.put, List.setIfInBounds_toArray, List.set_cons_zero, List.set_cons_succ]; first | done | exact rfl)); (case' nexte8 => intro v8))
  (refine' grow_prop (p := (fun v w => TabR w v I O l)) (hp := fun v w w' h hb => h.below hb) rfl ?wte9 ?rune9 ?pute9 ?nexte9; (case wte9 => rfl); (case rune9 => (intro w' hS H; (have hv : WithR I O l v8 w' := H 8 (by decide)); (obtain ⟨tv, rfl, hv⟩ := hv); refine ⟨tv, ?_, hv⟩; clear H hv hS; go_simp)); (case pute9 => (intro v; simp only [Act.put, List.setIfInBounds_toArray, List.set_cons_zero, List.set_cons_succ]; first | done | exact rfl)); (case' nexte9 => intro v9))
  (refine' grow_lit (u := .nilIface) rfl ?wte10 ?rune10 ?pute10 ?nexte10; (case wte10 => rfl); (case rune10 => (intro w' hS H; (have hv : WithR I O l v8 w' := H 8 (by decide)); (obtain ⟨tv, rfl, hv⟩ := hv); clear H hv hS; go_simp)); (case pute10 => (simp only [Act.put, List.setIfInBounds_toArray, List.set_cons_zero, List.set_cons_succ]; first | done | exact rfl)); (case' nexte10 => skip))
  (refine' grow_fresh (p := PtrTab W5) (hp := fun v w w' h hb => h.below hb) hGS rfl ?wte11 ?rune11 ?pute11 ?nexte11; (case wte11 => rfl); (case rune11 => (intro w' hS H; clear H; refine ⟨.pointer (some ⟨w'.heap.size, 0, none⟩), w'.alloc (.cells #[.int .i64 0, .int .i64 0, .slice none 0 0] 34), ?_, ⟨w'.heap.size, rfl, hS.size, Blk.new _ _ _ _ rfl⟩, ⟨w'.heap.size, rfl, Nat.le_refl _, by simp⟩, below_alloc1 _⟩; (clear hS; go_simp))); (case pute11 => (intro v; simp only [Act.put, List.setIfInBounds_toArray, List.set_cons_zero, List.set_cons_succ]; first | done | exact rfl)); (case' nexte11 => intro v11))
  case pureeight =>
    refine PureX.one rfl (fun c' w' hS H => ?_)
    have hv : WithR I O l (c'.tmps.getD 81 undef) w' := H 8 (by decide)
    obtain ⟨tv, e, -⟩ := hv
    have e' : c'.eval (.tmp 81) = .tuple #[tv, .nilIface] := e
    exact ⟨.nilIface, rfl, fun w'' => run_extract rfl _ _ _ e' rfl _ w'', rfl, rfl⟩
  intro w9 hb hk
  have h9 : TabR w9 v9 I O l := hk 9 (by decide)
  have h11 : PtrTab W5 v11 w9 := hk 11 (by decide)
  obtain ⟨zu, rfl, hz⟩ := h9
  obtain ⟨b, rfl, hbb, kb⟩ := h11
  obtain ⟨zq, zc, rfl⟩ := hz.shape
  have HZ := Lib.hid hz
  have HKB := Lib.hid kb
  have HB9 := Lib.hid hb
  have zb := kb.lt
  clear hk hz hb
  obtain ⟨s0, s1, s2, f0, f1, f2⟩ := kb.o3
  clear kb
  refine wpAny_ready (rs := [12]) (by kernel_rfl) (by simp) (AllReady.cons rfl (fun K hK => ?_) AllReady.nil)
  go_simp
  refine hK _ _ ?_
  clear hK K
  refine wpAny_ready (rs := [13]) (by kernel_rfl) (by simp) (AllReady.cons rfl (fun K hK => ?_) AllReady.nil)
  go_simp
  refine hK _ _ ?_
  clear hK K
  refine wpAny_done (by kernel_rfl) ?_ _
  clear s0 s1 s2 f0 f1 f2
  have hZ9 := (((HZ.out.setTab HKB.out 0 (.int .i64 I)).setTab (HKB.out.set 0 _) 1 (.int .i64 O)).setTab ((HKB.out.set 0 _).set 1 _) 2 (.slice zq l.length zc))
  have hK9 := ((HKB.out.set 0 (.int .i64 I)).set 1 (.int .i64 O)).set 2 (.slice zq l.length zc)
  have hB9 : Below W5.heap.size W5 (((w9.setCell ⟨b, 0, none⟩ (.int .i64 I)).setCell ⟨b, 1, none⟩ (.int .i64 O)).setCell ⟨b, 2, none⟩ (.slice zq l.length zc)) := by
    iterate 3 (refine Below.setCell ?_ (by simp only []; omega) _)
    exact HB9.out
  obtain ⟨W9, hW9⟩ := named (((w9.setCell ⟨b, 0, none⟩ (.int .i64 I)).setCell ⟨b, 1, none⟩ (.int .i64 O)).setCell ⟨b, 2, none⟩ (.slice zq l.length zc))
  rw [← hW9] at hZ9 hK9 hB9 ⊢
  have KZ : Hid (Blk W9 b #[.int .i64 I, .int .i64 O, .slice zq l.length zc] 34) := Lib.hid (by simpa using hK9)
  have TZ := Lib.hid (hZ9.row (by omega))
  clear hZ9 hK9 hW9 HZ HKB HB9 zb hbb hGS
  have hd_ : Below W5.heap.size W5 W9 := hB9
  have KA_ := Lib.hid (KA.out.keep hd_)
  have TL_ := Lib.hid (TL.out.below hd_)
  have HG_ := Lib.hid (HG.out.keep hd_)
  have KS_ := Lib.hid (KS.out.keep hd_)
  have TS_ := Lib.hid (TS.out.below hd_)
  have KX_ := Lib.hid (KX.out.keep hd_)
  have TA_ := Lib.hid (TA.out.below hd_)
  have KY_ := Lib.hid (KY.out.keep hd_)
  have TB_ := Lib.hid (TB.out.below hd_)
  have B1 : Hid (Below w.heap.size w W9) := Lib.hid (B0.out.trans (hd_.mono B0.out.size))
  clear hB9 hd_ B0 KA TL HG KS TS KX TA KY TB
  have KA := KA_
  have TL := TL_
  have HG := HG_
  have KS := KS_
  have TS := TS_
  have KX := KX_
  have TA := TA_
  have KY := KY_
  have TB := TB_
  have B0 := B1
  clear B1 KA_ TL_ HG_ KS_ TS_ KX_ TA_ KY_ TB_
  go_wp2_with fail
  have hGS : Grows (fun w' => Below W9.heap.size W9 w') := Grows.below W9
  refine' wp_growL _ (fun w' => Below W9.heap.size W9 w') [[], [0], [1], [2], [2, 3], [2, 4], [5], [6], [6, 7], [6, 8], [9], [10], [10, 11], [10, 12], [10, 13], [14], [15], [15, 16], [15, 17], [15, 18], [19], [20], [20], [20, 21, 22], [20, 23], [20, 24], [25], [26], [26], [26, 28], [26, 27, 29], [26, 30], [26, 31]] (Fact.lit _ :: Fact.lit _ :: Fact.lit _ :: Fact.lit _ :: Fact.lit _ :: Fact.lit _ :: Fact.lit _ :: Fact.lit _ :: Fact.lit _ :: Fact.lit _ :: Fact.lit _ :: Fact.lit _ :: Fact.lit _ :: Fact.lit _ :: Fact.lit _ :: Fact.lit _ :: Fact.lit _ :: Fact.lit _ :: Fact.lit _ :: Fact.lit _ :: Fact.lit _ :: Fact.lit _ :: Fact.lit _ :: Fact.lit _ :: Fact.lit _ :: Fact.lit _ :: Fact.lit _ :: Fact.lit _ :: Fact.lit _ :: Fact.prop _ _ :: Fact.lit _ :: Fact.lit _ :: Fact.lit _ :: []) (by kernel_rfl) rfl (by kernel_rfl) (Below.refl _ _).drew ?seqnine
  case' seqnine => skip
  (first | (refine' grow_skip rfl ?wt7 ?put7 ?next7; (case wt7 => rfl)) | (refine' grow_lit rfl ?wt7 ?run7 ?put7 ?next7; (case wt7 => rfl); (case run7 => (intro w' hS H; clear H; (obtain ⟨a0, a1, a2, -, -, -⟩ := (KS.out.keep hS).o3); (obtain ⟨b0, b1, b2, -, -, -⟩ := (KX.out.keep hS).o3); (obtain ⟨g0, g1, g2, -, -, -⟩ := (KY.out.keep hS).o3); (obtain ⟨z0, z1, z2, -, -, -⟩ := (KZ.out.keep hS).o3); (obtain ⟨q0, q1, q2, -, -, -⟩ := (KA.out.keep hS).o3); clear hS; go_simp; first | done | exact rfl)))); (case put7 => (simp only [Act.put, List.setIfInBounds_toArray, List.set_cons_zero, List.set_cons_succ]; first | done | exact rfl)); (case' next7 => skip)
  (first | (refine' grow_skip rfl ?wt8 ?put8 ?next8; (case wt8 => rfl)) | (refine' grow_lit rfl ?wt8 ?run8 ?put8 ?next8; (case wt8 => rfl); (case run8 => (intro w' hS H; clear H; (obtain ⟨a0, a1, a2, -, -, -⟩ := (KS.out.keep hS).o3); (obtain ⟨b0, b1, b2, -, -, -⟩ := (KX.out.keep hS).o3); (obtain ⟨g0, g1, g2, -, -, -⟩ := (KY.out.keep hS).o3); (obtain ⟨z0, z1, z2, -, -, -⟩ := (KZ.out.keep hS).o3); (obtain ⟨q0, q1, q2, -, -, -⟩ := (KA.out.keep hS).o3); clear hS; go_simp; first | done | exact rfl)))); (case put8 => (simp only [Act.put, List.setIfInBounds_toArray, List.set_cons_zero, List.set_cons_succ]; first | done | exact rfl)); (case' next8 => skip)
  (first | (refine' grow_skip rfl ?wt9 ?put9 ?next9; (case wt9 => rfl)) | (refine' grow_lit rfl ?wt9 ?run9 ?put9 ?next9; (case wt9 => rfl); (case run9 => (intro w' hS H; clear H; (obtain ⟨a0, a1, a2, -, -, -⟩ := (KS.out.keep hS).o3); (obtain ⟨b0, b1, b2, -, -, -⟩ := (KX.out.keep hS).o3); (obtain ⟨g0, g1, g2, -, -, -⟩ := (KY.out.keep hS).o3); (obtain ⟨z0, z1, z2, -, -, -⟩ := (KZ.out.keep hS).o3); (obtain ⟨q0, q1, q2, -, -, -⟩ := (KA.out.keep hS).o3); clear hS; go_simp; first | done | exact rfl)))); (case put9 => (simp only [Act.put, List.setIfInBounds_toArray, List.set_cons_zero, List.set_cons_succ]; first | done | exact rfl)); (case' next9 => skip)
  (first | (refine' grow_skip rfl ?wt10 ?put10 ?next10; (case wt10 => rfl)) | (refine' grow_lit rfl ?wt10 ?run10 ?put10 ?next10; (case wt10 => rfl); (case run10 => (intro w' hS H; clear H; (obtain ⟨a0, a1, a2, -, -, -⟩ := (KS.out.keep hS).o3); (obtain ⟨b0, b1, b2, -, -, -⟩ := (KX.out.keep hS).o3); (obtain ⟨g0, g1, g2, -, -, -⟩ := (KY.out.keep hS).o3); (obtain ⟨z0, z1, z2, -, -, -⟩ := (KZ.out.keep hS).o3); (obtain ⟨q0, q1, q2, -, -, -⟩ := (KA.out.keep hS).o3); clear hS; go_simp; first | done | exact rfl)))); (case put10 => (simp only [Act.put, List.setIfInBounds_toArray, List.set_cons_zero, List.set_cons_succ]; first | done | exact rfl)); (case' next10 => skip)
  (first | (refine' grow_skip rfl ?wt11 ?put11 ?next11; (case wt11 => rfl)) | (refine' grow_lit rfl ?wt11 ?run11 ?put11 ?next11; (case wt11 => rfl); (case run11 => (intro w' hS H; clear H; (obtain ⟨a0, a1, a2, -, -, -⟩ := (KS.out.keep hS).o3); (obtain ⟨b0, b1, b2, -, -, -⟩ := (KX.out.keep hS).o3); (obtain ⟨g0, g1, g2, -, -, -⟩ := (KY.out.keep hS).o3); (obtain ⟨z0, z1, z2, -, -, -⟩ := (KZ.out.keep hS).o3); (obtain ⟨q0, q1, q2, -, -, -⟩ := (KA.out.keep hS).o3); clear hS; go_simp; first | done | exact rfl)))); (case put11 => (simp only [Act.put, List.setIfInBounds_toArray, List.set_cons_zero, List.set_cons_succ]; first | done | exact rfl)); (case' next11 => skip)
  (first | (refine' grow_skip rfl ?wt12 ?put12 ?next12; (case wt12 => rfl)) | (refine' grow_lit rfl ?wt12 ?run12 ?put12 ?next12; (case wt12 => rfl); (case run12 => (intro w' hS H; clear H; (obtain ⟨a0, a1, a2, -, -, -⟩ := (KS.out.keep hS).o3); (obtain ⟨b0, b1, b2, -, -, -⟩ := (KX.out.keep hS).o3); (obtain ⟨g0, g1, g2, -, -, -⟩ := (KY.out.keep hS).o3); (obtain ⟨z0, z1, z2, -, -, -⟩ := (KZ.out.keep hS).o3); (obtain ⟨q0, q1, q2, -, -, -⟩ := (KA.out.keep hS).o3); clear hS; go_simp; first | done | exact rfl)))); (case put12 => (simp only [Act.put, List.setIfInBounds_toArray, List.set_cons_zero, List.set_cons_succ]; first | done | exact rfl)); (case' next12 => skip)
  (first | (refine' grow_skip rfl ?wt13 ?put13 ?next13; (case wt13 => rfl)) | (refine' grow_lit rfl ?wt13 ?run13 ?put13 ?next13; (case wt13 => rfl); (case run13 => (intro w' hS H; clear H; (obtain ⟨a0, a1, a2, -, -, -⟩ := (KS.out.keep hS).o3); (obtain ⟨b0, b1, b2, -, -, -⟩ := (KX.out.keep hS).o3); (obtain ⟨g0, g1, g2, -, -, -⟩ := (KY.out.keep hS).o3); (obtain ⟨z0, z1, z2, -, -, -⟩ := (KZ.out.keep hS).o3); (obtain ⟨q0, q1, q2, -, -, -⟩ := (KA.out.keep hS).o3); clear hS; go_simp; first | done | exact rfl)))); (case put13 => (simp only [Act.put, List.setIfInBounds_toArray, List.set_cons_zero, List.set_cons_succ]; first | done | exact rfl)); (case' next13 => skip)
  (first | (refine' grow_skip rfl ?wt14 ?put14 ?next14; (case wt14 => rfl)) | (refine' grow_lit rfl ?wt14 ?run14 ?put14 ?next14; (case wt14 => rfl); (case run14 => (intro w' hS H; clear H; (obtain ⟨a0, a1, a2, -, -, -⟩ := (KS.out.keep hS).o3); (obtain ⟨b0, b1, b2, -, -, -⟩ := (KX.out.keep hS).o3); (obtain ⟨g0, g1, g2, -, -, -⟩ := (KY.out.keep hS).o3); (obtain ⟨z0, z1, z2, -, -, -⟩ := (KZ.out.keep hS).o3); (obtain ⟨q0, q1, q2, -, -, -⟩ := (KA.out.keep hS).o3); clear hS; go_simp; first | done | exact rfl)))); (case put14 => (simp only [Act.put, List.setIfInBounds_toArray, List.set_cons_zero, List.set_cons_succ]; first | done | exact rfl)); (case' next14 => skip)
  (first | (refine' grow_skip rfl ?wt15 ?put15 ?next15; (case wt15 => rfl)) | (refine' grow_lit rfl ?wt15 ?run15 ?put15 ?next15; (case wt15 => rfl); (case run15 => (intro w' hS H; clear H; (obtain ⟨a0, a1, a2, -, -, -⟩ := (KS.out.keep hS).o3); (obtain ⟨b0, b1, b2, -, -, -⟩ := (KX.out.keep hS).o3); (obtain ⟨g0, g1, g2, -, -, -⟩ := (KY.out.keep hS).o3); (obtain ⟨z0, z1, z2, -, -, -⟩ := (KZ.out.keep hS).o3); (obtain ⟨q0, q1, q2, -, -, -⟩ := (KA.out.keep hS).o3); clear hS; go_simp; first | done | exact rfl)))); (case put15 => (simp only [Act.put, List.setIfInBounds_toArray, List.set_cons_zero, List.set_cons_succ]; first | done | exact rfl)); (case' next15 => skip)
  (first | (refine' grow_skip rfl ?wt16 ?put16 ?next16; (case wt16 => rfl)) | (refine' grow_lit rfl ?wt16 ?run16 ?put16 ?next16; (case wt16 => rfl); (case run16 => (intro w' hS H; clear H; (obtain ⟨a0, a1, a2, -, -, -⟩ := (KS.out.keep hS).o3); (obtain ⟨b0, b1, b2, -, -, -⟩ := (KX.out.keep hS).o3); (obtain ⟨g0, g1, g2, -, -, -⟩ := (KY.out.keep hS).o3); (obtain ⟨z0, z1, z2, -, -, -⟩ := (KZ.out.keep hS).o3); (obtain ⟨q0, q1, q2, -, -, -⟩ := (KA.out.keep hS).o3); clear hS; go_simp; first | done | exact rfl)))); (case put16 => (simp only [Act.put, List.setIfInBounds_toArray, List.set_cons_zero, List.set_cons_succ]; first | done | exact rfl)); (case' next16 => skip)
  (first | (refine' grow_skip rfl ?wt17 ?put17 ?next17; (case wt17 => rfl)) | (refine' grow_lit rfl ?wt17 ?run17 ?put17 ?next17; (case wt17 => rfl); (case run17 => (intro w' hS H; clear H; (obtain ⟨a0, a1, a2, -, -, -⟩ := (KS.out.keep hS).o3); (obtain ⟨b0, b1, b2, -, -, -⟩ := (KX.out.keep hS).o3); (obtain ⟨g0, g1, g2, -, -, -⟩ := (KY.out.keep hS).o3); (obtain ⟨z0, z1, z2, -, -, -⟩ := (KZ.out.keep hS).o3); (obtain ⟨q0, q1, q2, -, -, -⟩ := (KA.out.keep hS).o3); clear hS; go_simp; first | done | exact rfl)))); (case put17 => (simp only [Act.put, List.setIfInBounds_toArray, List.set_cons_zero, List.set_cons_succ]; first | done | exact rfl)); (case' next17 => skip)
  (first | (refine' grow_skip rfl ?wt18 ?put18 ?next18; (case wt18 => rfl)) | (refine' grow_lit rfl ?wt18 ?run18 ?put18 ?next18; (case wt18 => rfl); (case run18 => (intro w' hS H; clear H; (obtain ⟨a0, a1, a2, -, -, -⟩ := (KS.out.keep hS).o3); (obtain ⟨b0, b1, b2, -, -, -⟩ := (KX.out.keep hS).o3); (obtain ⟨g0, g1, g2, -, -, -⟩ := (KY.out.keep hS).o3); (obtain ⟨z0, z1, z2, -, -, -⟩ := (KZ.out.keep hS).o3); (obtain ⟨q0, q1, q2, -, -, -⟩ := (KA.out.keep hS).o3); clear hS; go_simp; first | done | exact rfl)))); (case put18 => (simp only [Act.put, List.setIfInBounds_toArray, List.set_cons_zero, List.set_cons_succ]; first | done | exact rfl)); (case' next18 => skip)
  (refine' grow_call (u := .nilIface) rfl Tryd.func11 (by kernel_rfl) rfl hGS rfl ?wt37 ?run37 ?put37 ?next37; (case wt37 => rfl); (case run37 => (intro w' hS H; exact tcheck_ok I O _ la w' (TA.out.below hS) inA HCKA.out)); (case put37 => (simp only [Act.put, List.setIfInBounds_toArray, List.set_cons_zero, List.set_cons_succ]; first | done | exact rfl)); (case' next37 => skip))
  (first | (refine' grow_skip rfl ?wt19 ?put19 ?next19; (case wt19 => rfl)) | (refine' grow_lit rfl ?wt19 ?run19 ?put19 ?next19; (case wt19 => rfl); (case run19 => (intro w' hS H; clear H; (obtain ⟨a0, a1, a2, -, -, -⟩ := (KS.out.keep hS).o3); (obtain ⟨b0, b1, b2, -, -, -⟩ := (KX.out.keep hS).o3); (obtain ⟨g0, g1, g2, -, -, -⟩ := (KY.out.keep hS).o3); (obtain ⟨z0, z1, z2, -, -, -⟩ := (KZ.out.keep hS).o3); (obtain ⟨q0, q1, q2, -, -, -⟩ := (KA.out.keep hS).o3); clear hS; go_simp; first | done | exact rfl)))); (case put19 => (simp only [Act.put, List.setIfInBounds_toArray, List.set_cons_zero, List.set_cons_succ]; first | done | exact rfl)); (case' next19 => skip)
  (first | (refine' grow_skip rfl ?wt20 ?put20 ?next20; (case wt20 => rfl)) | (refine' grow_lit rfl ?wt20 ?run20 ?put20 ?next20; (case wt20 => rfl); (case run20 => (intro w' hS H; clear H; (obtain ⟨a0, a1, a2, -, -, -⟩ := (KS.out.keep hS).o3); (obtain ⟨b0, b1, b2, -, -, -⟩ := (KX.out.keep hS).o3); (obtain ⟨g0, g1, g2, -, -, -⟩ := (KY.out.keep hS).o3); (obtain ⟨z0, z1, z2, -, -, -⟩ := (KZ.out.keep hS).o3); (obtain ⟨q0, q1, q2, -, -, -⟩ := (KA.out.keep hS).o3); clear hS; go_simp; first | done | exact rfl)))); (case put20 => (simp only [Act.put, List.setIfInBounds_toArray, List.set_cons_zero, List.set_cons_succ]; first | done | exact rfl)); (case' next20 => skip)
  (first | (refine' grow_skip rfl ?wt21 ?put21 ?next21; (case wt21 => rfl)) | (refine' grow_lit rfl ?wt21 ?run21 ?put21 ?next21; (case wt21 => rfl); (case run21 => (intro w' hS H; clear H; (obtain ⟨a0, a1, a2, -, -, -⟩ := (KS.out.keep hS).o3); (obtain ⟨b0, b1, b2, -, -, -⟩ := (KX.out.keep hS).o3); (obtain ⟨g0, g1, g2, -, -, -⟩ := (KY.out.keep hS).o3); (obtain ⟨z0, z1, z2, -, -, -⟩ := (KZ.out.keep hS).o3); (obtain ⟨q0, q1, q2, -, -, -⟩ := (KA.out.keep hS).o3); clear hS; go_simp; first | done | exact rfl)))); (case put21 => (simp only [Act.put, List.setIfInBounds_toArray, List.set_cons_zero, List.set_cons_succ]; first | done | exact rfl)); (case' next21 => skip)
  (first | (refine' grow_skip rfl ?wt22 ?put22 ?next22; (case wt22 => rfl)) | (refine' grow_lit rfl ?wt22 ?run22 ?put22 ?next22; (case wt22 => rfl); (case run22 => (intro w' hS H; clear H; (obtain ⟨a0, a1, a2, -, -, -⟩ := (KS.out.keep hS).o3); (obtain ⟨b0, b1, b2, -, -, -⟩ := (KX.out.keep hS).o3); (obtain ⟨g0, g1, g2, -, -, -⟩ := (KY.out.keep hS).o3); (obtain ⟨z0, z1, z2, -, -, -⟩ := (KZ.out.keep hS).o3); (obtain ⟨q0, q1, q2, -, -, -⟩ := (KA.out.keep hS).o3); clear hS; go_simp; first | done | exact rfl)))); (case put22 => (simp only [Act.put, List.setIfInBounds_toArray, List.set_cons_zero, List.set_cons_succ]; first | done | exact rfl)); (case' next22 => skip)
  (refine' grow_call (u := .nilIface) rfl Tryd.func11 (by kernel_rfl) rfl hGS rfl ?wt38 ?run38 ?put38 ?next38; (case wt38 => rfl); (case run38 => (intro w' hS H; exact tcheck_ok I O _ lb w' (TB.out.below hS) inB HCKB.out)); (case put38 => (simp only [Act.put, List.setIfInBounds_toArray, List.set_cons_zero, List.set_cons_succ]; first | done | exact rfl)); (case' next38 => skip))
  (first | (refine' grow_skip rfl ?wt23 ?put23 ?next23; (case wt23 => rfl)) | (refine' grow_lit rfl ?wt23 ?run23 ?put23 ?next23; (case wt23 => rfl); (case run23 => (intro w' hS H; clear H; (obtain ⟨a0, a1, a2, -, -, -⟩ := (KS.out.keep hS).o3); (obtain ⟨b0, b1, b2, -, -, -⟩ := (KX.out.keep hS).o3); (obtain ⟨g0, g1, g2, -, -, -⟩ := (KY.out.keep hS).o3); (obtain ⟨z0, z1, z2, -, -, -⟩ := (KZ.out.keep hS).o3); (obtain ⟨q0, q1, q2, -, -, -⟩ := (KA.out.keep hS).o3); clear hS; go_simp; first | done | exact rfl)))); (case put23 => (simp only [Act.put, List.setIfInBounds_toArray, List.set_cons_zero, List.set_cons_succ]; first | done | exact rfl)); (case' next23 => skip)
  (first | (refine' grow_skip rfl ?wt24 ?put24 ?next24; (case wt24 => rfl)) | (refine' grow_lit rfl ?wt24 ?run24 ?put24 ?next24; (case wt24 => rfl); (case run24 => (intro w' hS H; clear H; (obtain ⟨a0, a1, a2, -, -, -⟩ := (KS.out.keep hS).o3); (obtain ⟨b0, b1, b2, -, -, -⟩ := (KX.out.keep hS).o3); (obtain ⟨g0, g1, g2, -, -, -⟩ := (KY.out.keep hS).o3); (obtain ⟨z0, z1, z2, -, -, -⟩ := (KZ.out.keep hS).o3); (obtain ⟨q0, q1, q2, -, -, -⟩ := (KA.out.keep hS).o3); clear hS; go_simp; first | done | exact rfl)))); (case put24 => (simp only [Act.put, List.setIfInBounds_toArray, List.set_cons_zero, List.set_cons_succ]; first | done | exact rfl)); (case' next24 => skip)
  (first | (refine' grow_skip rfl ?wt25 ?put25 ?next25; (case wt25 => rfl)) | (refine' grow_lit rfl ?wt25 ?run25 ?put25 ?next25; (case wt25 => rfl); (case run25 => (intro w' hS H; clear H; (obtain ⟨a0, a1, a2, -, -, -⟩ := (KS.out.keep hS).o3); (obtain ⟨b0, b1, b2, -, -, -⟩ := (KX.out.keep hS).o3); (obtain ⟨g0, g1, g2, -, -, -⟩ := (KY.out.keep hS).o3); (obtain ⟨z0, z1, z2, -, -, -⟩ := (KZ.out.keep hS).o3); (obtain ⟨q0, q1, q2, -, -, -⟩ := (KA.out.keep hS).o3); clear hS; go_simp; first | done | exact rfl)))); (case put25 => (simp only [Act.put, List.setIfInBounds_toArray, List.set_cons_zero, List.set_cons_succ]; first | done | exact rfl)); (case' next25 => skip)
  (first | (refine' grow_skip rfl ?wt26 ?put26 ?next26; (case wt26 => rfl)) | (refine' grow_lit rfl ?wt26 ?run26 ?put26 ?next26; (case wt26 => rfl); (case run26 => (intro w' hS H; clear H; (obtain ⟨a0, a1, a2, -, -, -⟩ := (KS.out.keep hS).o3); (obtain ⟨b0, b1, b2, -, -, -⟩ := (KX.out.keep hS).o3); (obtain ⟨g0, g1, g2, -, -, -⟩ := (KY.out.keep hS).o3); (obtain ⟨z0, z1, z2, -, -, -⟩ := (KZ.out.keep hS).o3); (obtain ⟨q0, q1, q2, -, -, -⟩ := (KA.out.keep hS).o3); clear hS; go_simp; first | done | exact rfl)))); (case put26 => (simp only [Act.put, List.setIfInBounds_toArray, List.set_cons_zero, List.set_cons_succ]; first | done | exact rfl)); (case' next26 => skip)
  (first | (refine' grow_skip rfl ?wt27 ?put27 ?next27; (case wt27 => rfl)) | (refine' grow_lit rfl ?wt27 ?run27 ?put27 ?next27; (case wt27 => rfl); (case run27 => (intro w' hS H; clear H; (obtain ⟨a0, a1, a2, -, -, -⟩ := (KS.out.keep hS).o3); (obtain ⟨b0, b1, b2, -, -, -⟩ := (KX.out.keep hS).o3); (obtain ⟨g0, g1, g2, -, -, -⟩ := (KY.out.keep hS).o3); (obtain ⟨z0, z1, z2, -, -, -⟩ := (KZ.out.keep hS).o3); (obtain ⟨q0, q1, q2, -, -, -⟩ := (KA.out.keep hS).o3); clear hS; go_simp; first | done | exact rfl)))); (case put27 => (simp only [Act.put, List.setIfInBounds_toArray, List.set_cons_zero, List.set_cons_succ]; first | done | exact rfl)); (case' next27 => skip)
  (refine' grow_call (u := .bool true) rfl Tryd.func13 (by kernel_rfl) rfl hGS rfl ?wt39 ?run39 ?put39 ?next39; (case wt39 => rfl); (case run39 => (intro w' hS H; exact (tsame_any I O I O _ _ l l w' (TZ.out.below hS) (TS.out.below hS)).mono (fun e w2 h => ⟨h.1.trans (by simp), h.2⟩))); (case put39 => (simp only [Act.put, List.setIfInBounds_toArray, List.set_cons_zero, List.set_cons_succ]; first | done | exact rfl)); (case' next39 => skip))
  (first | (refine' grow_skip rfl ?wt28 ?put28 ?next28; (case wt28 => rfl)) | (refine' grow_lit rfl ?wt28 ?run28 ?put28 ?next28; (case wt28 => rfl); (case run28 => (intro w' hS H; clear H; (obtain ⟨a0, a1, a2, -, -, -⟩ := (KS.out.keep hS).o3); (obtain ⟨b0, b1, b2, -, -, -⟩ := (KX.out.keep hS).o3); (obtain ⟨g0, g1, g2, -, -, -⟩ := (KY.out.keep hS).o3); (obtain ⟨z0, z1, z2, -, -, -⟩ := (KZ.out.keep hS).o3); (obtain ⟨q0, q1, q2, -, -, -⟩ := (KA.out.keep hS).o3); clear hS; go_simp; first | done | exact rfl)))); (case put28 => (simp only [Act.put, List.setIfInBounds_toArray, List.set_cons_zero, List.set_cons_succ]; first | done | exact rfl)); (case' next28 => skip)
  (first | (refine' grow_skip rfl ?wt29 ?put29 ?next29; (case wt29 => rfl)) | (refine' grow_lit rfl ?wt29 ?run29 ?put29 ?next29; (case wt29 => rfl); (case run29 => (intro w' hS H; clear H; (obtain ⟨a0, a1, a2, -, -, -⟩ := (KS.out.keep hS).o3); (obtain ⟨b0, b1, b2, -, -, -⟩ := (KX.out.keep hS).o3); (obtain ⟨g0, g1, g2, -, -, -⟩ := (KY.out.keep hS).o3); (obtain ⟨z0, z1, z2, -, -, -⟩ := (KZ.out.keep hS).o3); (obtain ⟨q0, q1, q2, -, -, -⟩ := (KA.out.keep hS).o3); clear hS; go_simp; first | done | exact rfl)))); (case put29 => (simp only [Act.put, List.setIfInBounds_toArray, List.set_cons_zero, List.set_cons_succ]; first | done | exact rfl)); (case' next29 => skip)
  (first | (refine' grow_skip rfl ?wt30 ?put30 ?next30; (case wt30 => rfl)) | (refine' grow_lit rfl ?wt30 ?run30 ?put30 ?next30; (case wt30 => rfl); (case run30 => (intro w' hS H; clear H; (obtain ⟨a0, a1, a2, -, -, -⟩ := (KS.out.keep hS).o3); (obtain ⟨b0, b1, b2, -, -, -⟩ := (KX.out.keep hS).o3); (obtain ⟨g0, g1, g2, -, -, -⟩ := (KY.out.keep hS).o3); (obtain ⟨z0, z1, z2, -, -, -⟩ := (KZ.out.keep hS).o3); (obtain ⟨q0, q1, q2, -, -, -⟩ := (KA.out.keep hS).o3); clear hS; go_simp; first | done | exact rfl)))); (case put30 => (simp only [Act.put, List.setIfInBounds_toArray, List.set_cons_zero, List.set_cons_succ]; first | done | exact rfl)); (case' next30 => skip)
  (first | (refine' grow_skip rfl ?wt31 ?put31 ?next31; (case wt31 => rfl)) | (refine' grow_lit rfl ?wt31 ?run31 ?put31 ?next31; (case wt31 => rfl); (case run31 => (intro w' hS H; clear H; (obtain ⟨a0, a1, a2, -, -, -⟩ := (KS.out.keep hS).o3); (obtain ⟨b0, b1, b2, -, -, -⟩ := (KX.out.keep hS).o3); (obtain ⟨g0, g1, g2, -, -, -⟩ := (KY.out.keep hS).o3); (obtain ⟨z0, z1, z2, -, -, -⟩ := (KZ.out.keep hS).o3); (obtain ⟨q0, q1, q2, -, -, -⟩ := (KA.out.keep hS).o3); clear hS; go_simp; first | done | exact rfl)))); (case put31 => (simp only [Act.put, List.setIfInBounds_toArray, List.set_cons_zero, List.set_cons_succ]; first | done | exact rfl)); (case' next31 => skip)
  (first | (refine' grow_skip rfl ?wt32 ?put32 ?next32; (case wt32 => rfl)) | (refine' grow_lit rfl ?wt32 ?run32 ?put32 ?next32; (case wt32 => rfl); (case run32 => (intro w' hS H; clear H; (obtain ⟨a0, a1, a2, -, -, -⟩ := (KS.out.keep hS).o3); (obtain ⟨b0, b1, b2, -, -, -⟩ := (KX.out.keep hS).o3); (obtain ⟨g0, g1, g2, -, -, -⟩ := (KY.out.keep hS).o3); (obtain ⟨z0, z1, z2, -, -, -⟩ := (KZ.out.keep hS).o3); (obtain ⟨q0, q1, q2, -, -, -⟩ := (KA.out.keep hS).o3); clear hS; go_simp; first | done | exact rfl)))); (case put32 => (simp only [Act.put, List.setIfInBounds_toArray, List.set_cons_zero, List.set_cons_succ]; first | done | exact rfl)); (case' next32 => skip)
  (refine' grow_callP (p := fun v w => TabV w v I O l) (hp := fun v w w' h hb => h.below hb) rfl Tryd.func12 (by kernel_rfl) rfl hGS rfl ?wt40 ?run40 ?put40 ?next40; (case wt40 => rfl); (case run40 => (intro w' hS H; exact (to_any I O _ l w' (by omega) (TL.out.below hS)).mono (fun e w2 ⟨v, h1, h2, h3⟩ => ⟨v, h1, h2, h3⟩))); (case put40 => (intro v; simp only [Act.put, List.setIfInBounds_toArray, List.set_cons_zero, List.set_cons_succ]; first | done | exact rfl)); (case' next40 => intro v29))
  (refine' grow_call (u := .bool true) rfl Tryd.func13 (by kernel_rfl) rfl hGS rfl ?wt41 ?run41 ?put41 ?next41; (case wt41 => rfl); (case run41 => (intro w' hS H; (have hv29 : TabV w' v29 I O l := H 29 (by decide)); (obtain ⟨uv29, rfl, hv29⟩ := hv29); exact (tsame_any I O I O _ _ l l w' (TS.out.below hS) hv29).mono (fun e w2 h => ⟨h.1.trans (by simp), h.2⟩))); (case put41 => (simp only [Act.put, List.setIfInBounds_toArray, List.set_cons_zero, List.set_cons_succ]; first | done | exact rfl)); (case' next41 => skip))
  (first | (refine' grow_skip rfl ?wt33 ?put33 ?next33; (case wt33 => rfl)) | (refine' grow_lit rfl ?wt33 ?run33 ?put33 ?next33; (case wt33 => rfl); (case run33 => (intro w' hS H; clear H; (obtain ⟨a0, a1, a2, -, -, -⟩ := (KS.out.keep hS).o3); (obtain ⟨b0, b1, b2, -, -, -⟩ := (KX.out.keep hS).o3); (obtain ⟨g0, g1, g2, -, -, -⟩ := (KY.out.keep hS).o3); (obtain ⟨z0, z1, z2, -, -, -⟩ := (KZ.out.keep hS).o3); (obtain ⟨q0, q1, q2, -, -, -⟩ := (KA.out.keep hS).o3); clear hS; go_simp; first | done | exact rfl)))); (case put33 => (simp only [Act.put, List.setIfInBounds_toArray, List.set_cons_zero, List.set_cons_succ]; first | done | exact rfl)); (case' next33 => skip)
  (first | (refine' grow_skip rfl ?wt34 ?put34 ?next34; (case wt34 => rfl)) | (refine' grow_lit rfl ?wt34 ?run34 ?put34 ?next34; (case wt34 => rfl); (case run34 => (intro w' hS H; clear H; (obtain ⟨a0, a1, a2, -, -, -⟩ := (KS.out.keep hS).o3); (obtain ⟨b0, b1, b2, -, -, -⟩ := (KX.out.keep hS).o3); (obtain ⟨g0, g1, g2, -, -, -⟩ := (KY.out.keep hS).o3); (obtain ⟨z0, z1, z2, -, -, -⟩ := (KZ.out.keep hS).o3); (obtain ⟨q0, q1, q2, -, -, -⟩ := (KA.out.keep hS).o3); clear hS; go_simp; first | done | exact rfl)))); (case put34 => (simp only [Act.put, List.setIfInBounds_toArray, List.set_cons_zero, List.set_cons_succ]; first | done | exact rfl)); (case' next34 => skip)
  intro w10 hb _
  have hd_ : Below W9.heap.size W9 w10 := hb
  have KA_ := Lib.hid (KA.out.keep hd_)
  have TL_ := Lib.hid (TL.out.below hd_)
  have HG_ := Lib.hid (HG.out.keep hd_)
  have KS_ := Lib.hid (KS.out.keep hd_)
  have TS_ := Lib.hid (TS.out.below hd_)
  have KX_ := Lib.hid (KX.out.keep hd_)
  have TA_ := Lib.hid (TA.out.below hd_)
  have KY_ := Lib.hid (KY.out.keep hd_)
  have TB_ := Lib.hid (TB.out.below hd_)
  have KZ_ := Lib.hid (KZ.out.keep hd_)
  have TZ_ := Lib.hid (TZ.out.below hd_)
  have B1 : Hid (Below w.heap.size w w10) := Lib.hid (B0.out.trans (hd_.mono B0.out.size))
  clear hb hd_ B0 KA TL HG KS TS KX TA KY TB KZ TZ
  have KA := KA_
  have TL := TL_
  have HG := HG_
  have KS := KS_
  have TS := TS_
  have KX := KX_
  have TA := TA_
  have KY := KY_
  have TB := TB_
  have KZ := KZ_
  have TZ := TZ_
  have B0 := B1
  clear B1 KA_ TL_ HG_ KS_ TS_ KX_ TA_ KY_ TB_ KZ_ TZ_
  clear hGS
  clear e1 e2 e3 e4 d1 i0 i1 o0 o1
  go_wp2_with fail
  go_loopw [18, 19, 20] (fun i _ _ wr => ∃ n : Nat, n ≤ NI ∧ i = .int .i64 n ∧ Hid (Below w10.heap.size w10 wr)) (fun i _ _ _ => NI - (intOf i).toNat)
  case atStart => exact ⟨0, Nat.zero_le _, rfl, Lib.hid (Below.refl _ _)⟩
  case round =>
    obtain ⟨n, hn, rfl, HBr⟩ := hrel
    obtain ⟨c0', c1', c2', -, -, -⟩ := (KA.out.keep HBr.out).o3
    by_cases hlt : n < NI
    · have hlt' : (n : Int) < I := by rw [EI.out]; omega
      go_wp2_with fail
      obtain ⟨wo, ewo⟩ := named wr
      have EW := Lib.hid ewo
      clear ewo
      go_loopw [19, 20] (fun k _ wq => ∃ q : Nat, q ≤ NO ∧ k = .int .i64 q ∧ Hid (Below w10.heap.size w10 wq)) (fun k _ _ => NO - (intOf k).toNat)
      case atStart => exact ⟨0, Nat.zero_le _, rfl, HBr⟩
      case round =>
        obtain ⟨q, hq, rfl, HBq⟩ := hrel
        clear c0' c1' c2'
        obtain ⟨c0', c1', c2', -, -, -⟩ := (KA.out.keep HBq.out).o3
        by_cases hlq : q < NO
        · have hlq' : (q : Int) < O := by rw [EO.out]; omega
          obtain ⟨s0, s1, s2, -, -, -⟩ := (KS.out.keep HBq.out).o3
          by_cases hxy : (n : Int) = x ∧ (q : Int) = y
          · have e1 : ((n : Int) == x) = true := by simpa using hxy.1
            have e2 : ((q : Int) == y) = true := by simpa using hxy.2
            have HTX : Hid (turnAt I O la n q = c) := Lib.hid (by rw [HTA.out n q (by omega) hlt' (by omega) hlq', if_pos hxy])
            clear hxy
            go_wp2_with fail
            refine (tat_any I O _ l n q _ HS.out HN.out (TS.out.below HBq.out)).mono ?_
            rintro e w' ⟨rfl, hb⟩
            have HBs := Lib.hid (HBq.out.trans (hb.mono HBq.out.size))
            clear hb c0' c1' c2' s0 s1 s2
            obtain ⟨s0, s1, s2, -, -, -⟩ := (KX.out.keep HBs.out).o3
            go_wp2_with fail
            refine (tat_is I O _ la n q c _ HS.out HNA.out (TA.out.below HBs.out) HTX.out).mono ?_
            rintro e w' ⟨rfl, hb⟩
            have HBt := Lib.hid (HBs.out.trans (hb.mono HBs.out.size))
            clear hb s0 s1 s2
            go_wp2_with fail
            go_roundw
            case rel => exact ⟨q + 1, by omega, by go_num, HBt⟩
            case measure => simp [intOf]; omega
          · obtain ⟨A, eA⟩ : ∃ A, turnAt I O l n q = A := ⟨_, rfl⟩
            have HTX : Hid (turnAt I O la n q = A) := Lib.hid (by rw [HTA.out n q (by omega) hlt' (by omega) hlq', if_neg hxy, eA])
            have EA := Lib.hid eA
            clear eA
            have hway : ((n : Int) == x) = false ∨ ((n : Int) == x) = true ∧ ((q : Int) == y) = false := by
              by_cases h : (n : Int) = x
              · exact Or.inr ⟨by simpa using h, by simpa using fun h2 => hxy ⟨h, h2⟩⟩
              · exact Or.inl (by simpa using h)
            clear hxy
            rcases hway with e1 | ⟨e1, e2⟩
            all_goals
              go_wp2_with fail
              refine (tat_is I O _ l n q A _ HS.out HN.out (TS.out.below HBq.out) EA.out).mono ?_
              rintro e w' ⟨rfl, hb⟩
              have HBs := Lib.hid (HBq.out.trans (hb.mono HBq.out.size))
              clear hb c0' c1' c2' s0 s1 s2
              obtain ⟨s0, s1, s2, -, -, -⟩ := (KX.out.keep HBs.out).o3
              go_wp2_with fail
              refine (tat_is I O _ la n q A _ HS.out HNA.out (TA.out.below HBs.out) HTX.out).mono ?_
              rintro e w' ⟨rfl, hb⟩
              have HBt := Lib.hid (HBs.out.trans (hb.mono HBs.out.size))
              clear hb s0 s1 s2
              go_wp2_with fail
              go_roundw
              case rel => exact ⟨q + 1, by omega, by go_num, HBt⟩
              case measure => simp [intOf]; omega
        · obtain rfl : q = NO := by omega
          have hlq' : ¬ (q : Int) < O := by rw [EO.out]; omega
          have hq2 : O ≤ (q : Int) := by omega
          go_wp2_with fail
          go_roundw
          case rel => exact ⟨n + 1, by omega, by go_num, HBq⟩
          case measure => simp [intOf]; omega
    · obtain rfl : n = NI := by omega
      have hlt' : ¬ (n : Int) < I := by rw [EI.out]; omega
      have hq2 : I ≤ (n : Int) := by omega
      obtain ⟨s0, s1, s2, -, -, -⟩ := (KY.out.keep HBr.out).o3
      go_wp2_with fail
      refine (tat_is I O _ lb x y d _ HS.out HNB.out (TB.out.below HBr.out) HTB.out).mono ?_
      rintro e w' ⟨rfl, hb⟩
      have HBt := Lib.hid (B0.out.trans ((HBr.out.trans (hb.mono HBr.out.size)).mono B0.out.size))
      clear hb
      go_wp2_with fail
      go_ret
      exact ⟨rfl, HBt.out⟩

theorem sets_walk (v : Value) (I O : Int) (ul : Value) (l : List Int) (x y c d : Int) (w : World) (hg : ErrT w) (hv : TabIn w v I O ul l)
    (_ : -9223372036854775808 ≤ x) (_ : x ≤ 9223372036854775807) (_ : -9223372036854775808 ≤ y) (_ : y ≤ 9223372036854775807) (c0 : -9223372036854775808 ≤ c) (c1 : c ≤ 9223372036854775807) (d0 : -9223372036854775808 ≤ d) (d1 : d ≤ 9223372036854775807) :
    Calls Tryd.prog 5 #[v, .int .i64 x, .int .i64 y, .int .i64 c, .int .i64 d] w fun e w' => e = .returned (.bool true) ∧ Below w.heap.size w w' := by
  have mk : ∀ {I O : Int} {l : List Int}, (chkT I O l).2 = 0 → chkT I O l = (0, 0) := fun h => by
    obtain ⟨q0, q1, q2, q3, hn, hall⟩ := chkT_ok h
    exact chkT_mk ⟨q0, q1⟩ ⟨q2, q3⟩ hn hall
  by_cases h : 300 < l.length
  · exact sets_long v I O ul l x y c d w hg hv h
  by_cases ha : (chkT I O l).2 = 0
  · by_cases hx : 0 ≤ x ∧ x < I ∧ 0 ≤ y ∧ y < O
    · cases hc : wgt c with
      | false => exact sets_wgt v I O ul l x y c d w hg hv (by omega) (mk ha) hx ⟨c0, c1⟩ ⟨d0, d1⟩ (Or.inl hc)
      | true => cases hd : wgt d with
        | false => exact sets_wgt v I O ul l x y c d w hg hv (by omega) (mk ha) hx ⟨c0, c1⟩ ⟨d0, d1⟩ (Or.inr ⟨hc, hd⟩)
        | true =>
          obtain ⟨q0, q1, q2, q3, -, -⟩ := chkT_ok ha
          obtain ⟨NI, rfl⟩ : ∃ n : Nat, I = n := ⟨I.toNat, by omega⟩
          obtain ⟨NO, rfl⟩ : ∃ n : Nat, O = n := ⟨O.toNat, by omega⟩
          exact sets_ok v NI NO ul l x y c d w hg hv (by omega) (mk ha) hx hc hd
    · refine sets_out v I O ul l x y c d w hg hv (by omega) (mk ha) ?_
      simp only [decide_eq_true_eq, decide_eq_false_iff_not]
      omega
  · exact sets_bad v I O ul l x y c d w hg hv (by omega) ha

set_option maxRecDepth 100000 in
theorem turnSets_walks : Walks laidAll 5 Tryd.f5 := by
  intro H enc W args ds g
  obtain ⟨ps, hA⟩ := g.reads
  obtain ⟨base, hval⟩ := g.okay
  rw [Tryd.params5] at hA hval
  obtain ⟨v0, vs0, d0, ds0, p0, q0, hargs, rfl, rfl, h0, r0⟩ := trodAll_cons hA
  obtain ⟨v1, vs1, d1, ds1, p1, q1, rfl, rfl, rfl, h1, r1⟩ := trodAll_cons r0
  obtain ⟨v2, vs2, d2, ds2, p2, q2, rfl, rfl, rfl, h2, r2⟩ := trodAll_cons r1
  obtain ⟨v3, vs3, d3, ds3, p3, q3, rfl, rfl, rfl, h3, r3⟩ := trodAll_cons r2
  obtain ⟨v4, vs4, d4, ds4, p4, q4, rfl, rfl, rfl, h4, r4⟩ := trodAll_cons r3
  obtain ⟨rfl, rfl, rfl⟩ := trodAll_nil r4
  obtain rfl : args = #[v0, v1, v2, v3, v4] := Array.toList_inj.1 hargs
  obtain ⟨I0, O0, u0, l0, T0⟩ := open_tab (hval 0 24 v0 rfl rfl) h0
  obtain ⟨x1, rfl, rfl, rfl, w1⟩ := open_int Tryd.underlying3 (hval 1 3 v1 rfl rfl) h1
  obtain ⟨x2, rfl, rfl, rfl, w2⟩ := open_int Tryd.underlying3 (hval 2 3 v2 rfl rfl) h2
  obtain ⟨x3, rfl, rfl, rfl, w3⟩ := open_int Tryd.underlying2 (hval 3 2 v3 rfl rfl) h3
  obtain ⟨x4, rfl, rfl, rfl, w4⟩ := open_int Tryd.underlying2 (hval 4 2 v4 rfl rfl) h4
  exact sets_walk v0 I0 O0 u0 l0 x1 x2 x3 x4 W (errT_of_laid g.laid) T0 (wf64 w1).1 (wf64 w1).2 (wf64 w2).1 (wf64 w2).2 (wf64 w3).1 (wf64 w3).2 (wf64 w4).1 (wf64 w4).2

theorem turnSets_row : Rows.TurnSetsSaid :=
  OpenClaim.holds_of_wide 5 Tryd.f5 rfl rfl rfl rfl rfl rfl rfl ⟨rfl, rfl, rfl, rfl, rfl⟩ rfl rfl rfl rfl rfl (by kernel_rfl) Tryd.func5 (by kernel_rfl)
    (of_decide_eq_true (by kernel_rfl)) (by unfold Func.isWrapper; rw [if_neg (of_decide_eq_false (by kernel_rfl))]; exact ⟨rfl, rfl⟩)
    (fun os started H enc _ => law_lifted (s := Rows.turnSetsSpec) (L := laidAll) Tryd.func5 (by kernel_rfl) rfl (by kernel_rfl)
      (fun H ds hl => by
        rw [Tryd.params5] at hl
        match ds, hl with
        | [_, _, _, _, _], _ => exact ⟨rfl, rfl, rfl⟩)
      (by kernel_rfl) os started H enc
      (ChangeSpec.witness_at (enc := enc) (C := Tryd.checked) (os := os) (X := fun w _ => laidMetH Tryd.prog laidAll w) false (laidWorld os) #[.agg #[.int .i64 0, .int .i64 0, .slice none 0 0], .int .i64 0, .int .i64 0, .int .i64 0, .int .i64 0] 8 rfl (by kernel_rfl) (by kernel_rfl) (by kernel_rfl) (by kernel_rfl) (by kernel_rfl) (laidWorld_met os _))
      turnSets_walks)

theorem turnSets_card : Rows.TurnSetsCardSaid :=
  Claim7.holds_tied_plain_at .later [] laidKindsAll true (Rows.turnSetsCard.stood.harness) true
    turnSets_row (fun _ h => by cases h) (by kernel_rfl) (fun _ h => by cases h) turnSets_row_tie rfl ⟨rfl, rfl⟩ (by kernel_rfl) rfl
    (fun f fn hf hfn => by
      obtain rfl : f = 5 := Option.some.inj ((show Tryd.prog.funcNamed "roundsman/roundsmanlaw2.TurnSets" = some 5 by kernel_rfl).symm.trans hf) |>.symm
      obtain rfl : fn = Tryd.f5 := (Option.some.inj (Tryd.func5.symm.trans hfn)).symm
      exact ⟨by kernel_rfl, fun j t ht => by
        rw [Tryd.params5] at ht
        exact stand_all #[24, 3, 3, 2, 2] (by kernel_rfl) j t ht⟩)
    (by kernel_rfl)
#print axioms turnSets_card

end Go.Proofs.YtboimdgldjimpaaDoor
