/-
  PROVED: the other way round just as much goes through, and what was near is far; edges told the other way round, and from a vertex to itself, turn nothing. For every number, all edges, every two sets.
-/
import Derived.Test.YtgihaakgadmidaaDoorFlKn
import Derived.Test.YtgihaakgadmidaaDoorFlLm
import Derived.Test.YtgihaakgadmidaaDoorFlAp
import Derived.Test.YtgihaakgadmidaaDoorLaid9
import Derived.RegionTactic
import Derived.BigQuiet
import Derived.IntWalk
import Derived.Test.YtgihaakgadmidaaDoorCards
import Derived.Test.YtgihaakgadmidaaDoorTie
import Derived.SevenTiedAt
namespace Go.Proofs.YtgihaakgadmidaaDoor
open Go.ChangeShapes Go.WideShapes Go.ChangeAt Go.RowKit

/-- The turned row, so far. -/
structure TurnM (w : World) (E : Edg) (N k : Nat) (v : Value) (wr : World) : Prop where
  r : wr.ownsRow w.heap.size 43 2 v (zE (turnE E N k)).length (flatP (zE (turnE E N k)))
  b : Below w.heap.size w wr
def TurnRel (w : World) (E : Edg) (N : Nat) (v iv : Value) (wr : World) : Prop := ∃ k : Nat, k ≤ E.length ∧ iv = .int .i64 k ∧ TurnM w E N k v wr
theorem TurnM.old {w wr wr' : World} {E : Edg} {N k : Nat} {v : Value} (h : TurnM w E N k v wr) (hb : Below wr.heap.size wr wr') : TurnM w E N k v wr' := ⟨own_below h.r hb, bOn6 h.b hb⟩
theorem TurnM.app {w wr wr' : World} {E : Edg} {N k : Nat} {v : Value} (h : TurnM w E N k v wr) {a c : Nat} (hac : eL E k = (a, c)) (hk : k ≤ 1000) (hb : Below wr.heap.size wr wr') {g : Nat} (hg : Blk wr' g #[.int .i64 (c : Int), .int .i64 (a : Int), .int .i64 ((k % N : Nat) : Int), .int .i64 ((k % N : Nat) : Int)] 43) :
    ∃ q n c' w', (Builtin.append_ #[22, 22] 22 #[v, .slice (some ⟨g, 0, none⟩) 2 2]).run Tryd.prog wr' = .ok (.slice q n c') w' ∧ TurnM w E N (k + 1) (.slice q n c') w' ∧ wr'.heap.size ≤ w'.heap.size := by
  have h' := h.old hb
  have hl : (zE (turnE E N k)).length = 2 * k := by rw [zE_len, turnE_len]
  obtain ⟨q, c', w', hr, ho, hb'⟩ := appP (l := zE (turnE E N k)) (news := [((c : Int), (a : Int)), (((k % N : Nat) : Int), ((k % N : Nat) : Int))]) h'.r hg (by omega) (by simp) h'.b.size
  refine ⟨q, _, c', w', hr, ⟨?_, h'.b.trans hb'⟩, hb'.size⟩
  have e : zE (turnE E N (k + 1)) = zE (turnE E N k) ++ [((c : Int), (a : Int)), (((k % N : Nat) : Int), ((k % N : Nat) : Int))] := by
    rw [turnE, zE_app, hac]
    rfl
  rw [e]
  rw [List.length_append] at *
  exact ho
structure GG.TurnS (W : World) (E : Edg) (N k : Nat) (v : Value) (dn : Nat → Bool) (s : Bool) (w : World) : Prop where
  here : dn 20 = s
  r : s = false → TurnM W E N k v w
  b : Below W.heap.size W w
theorem GG.TurnS.step {W : World} {E : Edg} {N k : Nat} {v : Value} {dn : Nat → Bool} {s : Bool} {w : World} (h : GG.TurnS W E N k v dn s w) {i : Nat} (hi : 20 ≠ i) : GG.TurnS W E N k v (GG.doneG dn i) s w :=
  ⟨by show (if 20 = i then true else dn 20) = s; rw [if_neg hi]; exact h.here, h.r, h.b⟩
theorem GG.TurnS.still {W : World} {E : Edg} {N k : Nat} {v : Value} {i : Nat} (hi : 20 ≠ i) : GG.Still (GG.TurnS W E N k v) GG.RlA i := ⟨fun _ _ _ h => h.step hi, fun _ _ => ⟨id, fun _ => Below.refl _ _⟩⟩
theorem GG.TurnS.old {W : World} {E : Edg} {N k : Nat} {v : Value} {dn : Nat → Bool} {s : Bool} {w w' : World} (h : GG.TurnS W E N k v dn s w) (hb : Below w.heap.size w w') : GG.TurnS W E N k v dn s w' := ⟨h.here, fun e => (h.r e).old hb, bOn6 h.b hb⟩
def GG.LitP (cs : Array Value) (v : Value) (s : Bool) (w : World) : Prop := s = false → ∃ g, v = .slice (some ⟨g, 0, none⟩) 2 2 ∧ Blk w g cs 43
theorem GG.LitP.st (cs : Array Value) (v : Value) (s : Bool) (w : World) (s' : Bool) (w' : World) (h : GG.LitP cs v s w) (hr : GG.RlA s w s' w') : GG.LitP cs v s' w' := by
  intro e
  cases s with
  | true => rw [hr.1 rfl] at e; cases e
  | false =>
    obtain ⟨g, e1, e2⟩ := h rfl
    exact ⟨g, e1, e2.keep (hr.2 e.symm)⟩
def GG.AppT (W : World) (E : Edg) (N k : Nat) (v : Value) (s : Bool) (w : World) : Prop := s = true ∧ (∃ q n c, v = .slice q n c) ∧ TurnM W E N k v w
theorem GG.AppT.st (W : World) (E : Edg) (N k : Nat) (v : Value) (s : Bool) (w : World) (s' : Bool) (w' : World) (h : GG.AppT W E N k v s w) (hr : GG.RlA s w s' w') : GG.AppT W E N k v s' w' :=
  ⟨hr.1 h.1, h.2.1, h.2.2.old (hr.2 (by rw [h.1, hr.1 h.1]))⟩
def TurnLoop (W : World) (N : Nat) (iv : Value) (wr : World) : Prop := ∃ i : Nat, i ≤ N ∧ iv = .int .i64 i ∧ Below W.heap.size W wr
set_option maxHeartbeats 8000000 in
set_option maxRecDepth 100000 in
theorem turned_walk (n : Int) (ev : Value) (l : List (Int × Int)) (sv : Value) (src : List Int) (dv : Value) (dst : List Int) (w : World) (hg : ErrT w) (n0 : -9223372036854775808 ≤ n) (n1 : n ≤ 9223372036854775807) (he : Prs w ev l) (hei : InPrs l) (hs : I64s w sv src) (hsi : In64 src) (hd : I64s w dv dst) (hdi : In64 dst) :
    Calls Tryd.prog 5 #[.int .i64 n, ev, sv, dv] w fun e w' => e = .returned (.bool true) ∧ Below w.heap.size w w' := by
  obtain ⟨eq0, ec0, rfl⟩ := he.shape
  obtain ⟨sq0, sc0, rfl⟩ := hs.shape
  obtain ⟨dq0, dc0, rfl⟩ := hd.shape
  have HG := Lib.hid hg
  have HB := Lib.hid (Below.refl w.heap.size w)
  have HE := Lib.hid he
  have HS := Lib.hid hs
  have HD := Lib.hid hd
  clear hg he hs hd
  go_enter Tryd.func5, Tryd.ntmps5
  go_wp2_with fail
  refine (known9_any _ HG.out).mono ?_
  rintro e w1 ⟨rfl, hb⟩
  have HB_ := Lib.hid (bOn6 HB.out hb)
  have HE_ := Lib.hid (HE.out.below hb)
  have HS_ := Lib.hid (HS.out.below hb)
  have HD_ := Lib.hid (HD.out.below hb)
  clear HB HE HS HD
  have HB := HB_
  have HE := HE_
  have HS := HS_
  have HD := HD_
  clear HB_ HE_ HS_ HD_
  clear hb
  by_cases c0 : 60 < n
  · have d0 : decide (60 < n) = true := by simpa using c0
    go_wp2_with fail
    go_ret
    exact ⟨rfl, HB.out⟩
  have d0 : decide (60 < n) = false := by simpa using c0
  by_cases c1 : n < 1
  · have d1 : decide (n < 1) = true := by simpa using c1
    go_wp2_with fail
    go_ret
    exact ⟨rfl, HB.out⟩
  have d1 : decide (n < 1) = false := by simpa using c1
  by_cases c2 : (150 : Int) < (l.length : Int)
  · have d2 : decide ((150 : Int) < (l.length : Int)) = true := by simpa using c2
    go_wp2_with fail
    go_ret
    exact ⟨rfl, HB.out⟩
  have d2 : decide ((150 : Int) < (l.length : Int)) = false := by simpa using c2
  by_cases c3 : (80 : Int) < (src.length : Int)
  · have d3 : decide ((80 : Int) < (src.length : Int)) = true := by simpa using c3
    go_wp2_with fail
    go_ret
    exact ⟨rfl, HB.out⟩
  have d3 : decide ((80 : Int) < (src.length : Int)) = false := by simpa using c3
  by_cases c4 : (80 : Int) < (dst.length : Int)
  · have d4 : decide ((80 : Int) < (dst.length : Int)) = true := by simpa using c4
    go_wp2_with fail
    go_ret
    exact ⟨rfl, HB.out⟩
  have d4 : decide ((80 : Int) < (dst.length : Int)) = false := by simpa using c4
  go_wp2_with fail
  refine (checkFlow_is HE.out HS.out HD.out (by omega) (by omega) (by omega) (by omega)).mono ?_
  rintro e w2 ⟨q9, n9, m9, er, rfl, her, hb⟩
  have HER := Lib.hid her
  have hfl9 := wr_field1 (.slice q9 n9 m9) (.int .i64 er) w2
  clear her
  have HB_ := Lib.hid (bOn6 HB.out hb)
  have HE_ := Lib.hid (HE.out.below hb)
  have HS_ := Lib.hid (HS.out.below hb)
  have HD_ := Lib.hid (HD.out.below hb)
  clear HB HE HS HD
  have HB := HB_
  have HE := HE_
  have HS := HS_
  have HD := HD_
  clear HB_ HE_ HS_ HD_
  clear hb
  by_cases hq : OkA n l src dst ∧ ¬ Twice src dst
  case neg =>
    have d9 : (er != 0) = true := by
      simp only [bne_iff_ne, ne_eq]
      exact fun e => hq (HER.out.1 e)
    have d9b : (er == 0) = false := by simpa using d9
    go_wp2_with fail
    go_ret
    exact ⟨rfl, HB.out⟩
  obtain ⟨hok, htw⟩ := hq
  have d9 : (er != 0) = false := by
    simp only [bne_eq_false_iff_eq]
    exact HER.out.2 ⟨hok, htw⟩
  have d9b : (er == 0) = true := by simpa using d9
  obtain ⟨N, E, S, D, hN, hE, hEI, hS, hD, hSN, hDN⟩ := hok.edges
  subst hN hE hS hD
  rw [zE_len] at *
  rw [zN_len] at *
  rw [zN_len] at *
  have HEI := Lib.hid hEI
  have HSN := Lib.hid hSN
  have HDN := Lib.hid hDN
  have HTW := Lib.hid htw
  have HLN : Hid (0 < N ∧ N ≤ 60) := Lib.hid ⟨by omega, by omega⟩
  have HLE : Hid (E.length ≤ 150) := Lib.hid (by omega)
  have HLS : Hid (S.length ≤ 1000000) := Lib.hid (by omega)
  have HLD : Hid (D.length ≤ 1000000) := Lib.hid (by omega)
  clear hok htw hEI hSN hDN
  go_wp2_with fail
  clear d0 d1 d2 d3 d4 d9 d9b hfl9 c0 c1 c2 c3 c4
  go_loopw [9, 10] (fun v iv wr => TurnRel w2 E N v iv wr) (fun _ iv _ => E.length - (intOf iv).toNat)
  case atStart => exact ⟨0, Nat.zero_le _, rfl, World.ownsRow_nil _ _ _ _, Below.refl _ _⟩
  case round =>
    obtain ⟨k, hk, rfl, hm⟩ := hrel
    have HM := Lib.hid hm
    obtain ⟨q8, c8, rfl⟩ := own_shape hm.r
    have HVL : Hid ((zE (turnE E N k)).length = 2 * k) := Lib.hid (by rw [zE_len, turnE_len])
    by_cases hlt : k < E.length
    · have hki : (k : Int) < (E.length : Int) := by omega
      obtain ⟨⟨a, c⟩, hac⟩ : ∃ e, eL E k = e := ⟨_, rfl⟩
      obtain ⟨eb, eo, rfl, z0, z1⟩ := HE.out.at (k := k) (by rw [zE_len]; exact hlt)
      rw [zE_at, hac] at z0 z1
      simp only at z0 z1
      have Z0 := Lib.hid z0
      have Z1 := Lib.hid z1
      have HAC := Lib.hid hac
      have hmod : k % N < N := Nat.mod_lt _ HLN.out.1
      have hrem : (k : Int).tmod (N : Int) = ((k % N : Nat) : Int) := by rw [Int.tmod_eq_emod_of_nonneg (by omega), Int.natCast_emod]
      have hwr : IntKind.i64.wrap ((k % N : Nat) : Int) = ((k % N : Nat) : Int) := IntWalk.i64_in _ (by have := HLN.out; omega)
      have hn0 : ((N : Int) == 0) = false := beq_eq_false_iff_ne.2 (by have := HLN.out; omega)
      have hnp : (0 : Int) < (N : Int) := by have := HLN.out; omega
      obtain ⟨R, hR⟩ : ∃ R, k % N = R := ⟨_, rfl⟩
      rw [hR] at hmod hrem hwr
      have HR := Lib.hid hR
      have HREM := Lib.hid hrem
      have HWR := Lib.hid hwr
      have HN0 : Hid (¬ N = 0) := Lib.hid (by have := HLN.out; omega)
      have hwk : IntKind.i64.wrap ((k : Int) + 1) = (k : Int) + 1 := IntWalk.i64_in _ (by have := HLE.out; omega)
      obtain ⟨v8, hv8⟩ : ∃ v8, Value.slice q8 (zE (turnE E N k)).length c8 = v8 := ⟨_, rfl⟩
      rw [hv8] at HM
      rw [hv8]
      have SA0 : Hid (GG.TurnS w2 E N k v8 (fun _ => false) false wr.drew) := Lib.hid ⟨rfl, fun _ => HM.out.old (Below.refl _ _).drew, HM.out.b.drew⟩
      clear z0 z1 hac hm hR hrem hwr hv8
      go_wp2_with fail
      refine' GG.wp_thenL _ 21 (GG.TurnS w2 E N k v8) [[], [], [], [1, 2], [1, 2, 3], [1, 2, 3, 4], [], [], [6, 7], [6, 7, 8], [6, 7, 8, 9], [1, 2, 3, 4, 5, 6, 7, 8, 9, 10], [], [], [12, 13], [], [], [15, 16], [12, 13, 14, 15, 16, 17], [1, 2, 3, 4, 5, 6, 7, 8, 9, 10, 11, 12, 13, 14, 15, 16, 17, 18], [0, 1, 2, 3, 4, 5, 6, 7, 8, 9, 10, 11, 12, 13, 14, 15, 16, 17, 18, 19]] (GG.Fact.lit (Rl := GG.RlA) _ :: GG.Fact.lit (Rl := GG.RlA) _ :: GG.Fact.lit (Rl := GG.RlA) _ :: GG.Fact.lit (Rl := GG.RlA) _ :: GG.Fact.lit (Rl := GG.RlA) _ :: GG.Fact.lit (Rl := GG.RlA) _ :: GG.Fact.lit (Rl := GG.RlA) _ :: GG.Fact.lit (Rl := GG.RlA) _ :: GG.Fact.lit (Rl := GG.RlA) _ :: GG.Fact.lit (Rl := GG.RlA) _ :: GG.Fact.lit (Rl := GG.RlA) _ :: GG.Fact.lit (Rl := GG.RlA) _ :: GG.Fact.lit (Rl := GG.RlA) _ :: GG.Fact.lit (Rl := GG.RlA) _ :: GG.Fact.lit (Rl := GG.RlA) _ :: GG.Fact.lit (Rl := GG.RlA) _ :: GG.Fact.lit (Rl := GG.RlA) _ :: GG.Fact.lit (Rl := GG.RlA) _ :: GG.Fact.lit (Rl := GG.RlA) _ :: GG.Fact.prop (Rl := GG.RlA) _ _ :: GG.Fact.prop (Rl := GG.RlA) _ _ :: []) (by kernel_rfl) rfl (by kernel_rfl) (false) (SA0.out) ?seqtu
      case' seqtu => skip
      (refine' GG.grow_lit (GG.TurnS.still (by decide)) rfl ?wttu0 ?runtu0 ?puttu0 ?nexttu0; (case wttu0 => rfl); (case runtu0 => (intro w' hS; (obtain ⟨dn, s, hS⟩ := hS); (have z0 := keep hS.b Z0.out); (have z1 := keep hS.b Z1.out); (have hl0 := World.block_lt_of_cell? w' _ z0); (have hrem := HREM.out); (have hwr := HWR.out); (have hn0 := HN0.out); clear hS; go_simp; first | done | exact rfl)); (case puttu0 => (first | (simp only [Act.put, List.setIfInBounds_toArray, List.set_cons_zero, List.set_cons_succ]; first | done | exact rfl) | rfl)); (case' nexttu0 => skip))
      (refine' GG.grow_lit (GG.TurnS.still (by decide)) rfl ?wttu1 ?runtu1 ?puttu1 ?nexttu1; (case wttu1 => rfl); (case runtu1 => (intro w' hS; (obtain ⟨dn, s, hS⟩ := hS); (have z0 := keep hS.b Z0.out); (have z1 := keep hS.b Z1.out); (have hl0 := World.block_lt_of_cell? w' _ z0); (have hrem := HREM.out); (have hwr := HWR.out); (have hn0 := HN0.out); clear hS; go_simp; first | done | exact rfl)); (case puttu1 => (first | (simp only [Act.put, List.setIfInBounds_toArray, List.set_cons_zero, List.set_cons_succ]; first | done | exact rfl) | rfl)); (case' nexttu1 => skip))
      (refine' GG.grow_lit (GG.TurnS.still (by decide)) rfl ?wttu2 ?runtu2 ?puttu2 ?nexttu2; (case wttu2 => rfl); (case runtu2 => (intro w' hS; (obtain ⟨dn, s, hS⟩ := hS); (have z0 := keep hS.b Z0.out); (have z1 := keep hS.b Z1.out); (have hl0 := World.block_lt_of_cell? w' _ z0); (have hrem := HREM.out); (have hwr := HWR.out); (have hn0 := HN0.out); clear hS; go_simp; first | done | exact rfl)); (case puttu2 => (first | (simp only [Act.put, List.setIfInBounds_toArray, List.set_cons_zero, List.set_cons_succ]; first | done | exact rfl) | rfl)); (case' nexttu2 => skip))
      (refine' GG.grow_lit (GG.TurnS.still (by decide)) rfl ?wttu3 ?runtu3 ?puttu3 ?nexttu3; (case wttu3 => rfl); (case runtu3 => (intro w' hS; (obtain ⟨dn, s, hS⟩ := hS); (have z0 := keep hS.b Z0.out); (have z1 := keep hS.b Z1.out); (have hl0 := World.block_lt_of_cell? w' _ z0); (have hrem := HREM.out); (have hwr := HWR.out); (have hn0 := HN0.out); clear hS; go_simp; first | done | exact rfl)); (case puttu3 => (first | (simp only [Act.put, List.setIfInBounds_toArray, List.set_cons_zero, List.set_cons_succ]; first | done | exact rfl) | rfl)); (case' nexttu3 => skip))
      (refine' GG.grow_lit (GG.TurnS.still (by decide)) rfl ?wttu4 ?runtu4 ?puttu4 ?nexttu4; (case wttu4 => rfl); (case runtu4 => (intro w' hS; (obtain ⟨dn, s, hS⟩ := hS); (have z0 := keep hS.b Z0.out); (have z1 := keep hS.b Z1.out); (have hl0 := World.block_lt_of_cell? w' _ z0); (have hrem := HREM.out); (have hwr := HWR.out); (have hn0 := HN0.out); clear hS; go_simp; first | done | exact rfl)); (case puttu4 => (first | (simp only [Act.put, List.setIfInBounds_toArray, List.set_cons_zero, List.set_cons_succ]; first | done | exact rfl) | rfl)); (case' nexttu4 => skip))
      (refine' GG.grow_lit (GG.TurnS.still (by decide)) rfl ?wttu5 ?runtu5 ?puttu5 ?nexttu5; (case wttu5 => rfl); (case runtu5 => (intro w' hS; (obtain ⟨dn, s, hS⟩ := hS); (have z0 := keep hS.b Z0.out); (have z1 := keep hS.b Z1.out); (have hl0 := World.block_lt_of_cell? w' _ z0); (have hrem := HREM.out); (have hwr := HWR.out); (have hn0 := HN0.out); clear hS; go_simp; first | done | exact rfl)); (case puttu5 => (first | (simp only [Act.put, List.setIfInBounds_toArray, List.set_cons_zero, List.set_cons_succ]; first | done | exact rfl) | rfl)); (case' nexttu5 => skip))
      (refine' GG.grow_lit (GG.TurnS.still (by decide)) rfl ?wttu6 ?runtu6 ?puttu6 ?nexttu6; (case wttu6 => rfl); (case runtu6 => (intro w' hS; (obtain ⟨dn, s, hS⟩ := hS); (have z0 := keep hS.b Z0.out); (have z1 := keep hS.b Z1.out); (have hl0 := World.block_lt_of_cell? w' _ z0); (have hrem := HREM.out); (have hwr := HWR.out); (have hn0 := HN0.out); clear hS; go_simp; first | done | exact rfl)); (case puttu6 => (first | (simp only [Act.put, List.setIfInBounds_toArray, List.set_cons_zero, List.set_cons_succ]; first | done | exact rfl) | rfl)); (case' nexttu6 => skip))
      (refine' GG.grow_lit (GG.TurnS.still (by decide)) rfl ?wttu7 ?runtu7 ?puttu7 ?nexttu7; (case wttu7 => rfl); (case runtu7 => (intro w' hS; (obtain ⟨dn, s, hS⟩ := hS); (have z0 := keep hS.b Z0.out); (have z1 := keep hS.b Z1.out); (have hl0 := World.block_lt_of_cell? w' _ z0); (have hrem := HREM.out); (have hwr := HWR.out); (have hn0 := HN0.out); clear hS; go_simp; first | done | exact rfl)); (case puttu7 => (first | (simp only [Act.put, List.setIfInBounds_toArray, List.set_cons_zero, List.set_cons_succ]; first | done | exact rfl) | rfl)); (case' nexttu7 => skip))
      (refine' GG.grow_lit (GG.TurnS.still (by decide)) rfl ?wttu8 ?runtu8 ?puttu8 ?nexttu8; (case wttu8 => rfl); (case runtu8 => (intro w' hS; (obtain ⟨dn, s, hS⟩ := hS); (have z0 := keep hS.b Z0.out); (have z1 := keep hS.b Z1.out); (have hl0 := World.block_lt_of_cell? w' _ z0); (have hrem := HREM.out); (have hwr := HWR.out); (have hn0 := HN0.out); clear hS; go_simp; first | done | exact rfl)); (case puttu8 => (first | (simp only [Act.put, List.setIfInBounds_toArray, List.set_cons_zero, List.set_cons_succ]; first | done | exact rfl) | rfl)); (case' nexttu8 => skip))
      (refine' GG.grow_lit (GG.TurnS.still (by decide)) rfl ?wttu9 ?runtu9 ?puttu9 ?nexttu9; (case wttu9 => rfl); (case runtu9 => (intro w' hS; (obtain ⟨dn, s, hS⟩ := hS); (have z0 := keep hS.b Z0.out); (have z1 := keep hS.b Z1.out); (have hl0 := World.block_lt_of_cell? w' _ z0); (have hrem := HREM.out); (have hwr := HWR.out); (have hn0 := HN0.out); clear hS; go_simp; first | done | exact rfl)); (case puttu9 => (first | (simp only [Act.put, List.setIfInBounds_toArray, List.set_cons_zero, List.set_cons_succ]; first | done | exact rfl) | rfl)); (case' nexttu9 => skip))
      (refine' GG.grow_lit (GG.TurnS.still (by decide)) rfl ?wttu10 ?runtu10 ?puttu10 ?nexttu10; (case wttu10 => rfl); (case runtu10 => (intro w' hS; (obtain ⟨dn, s, hS⟩ := hS); (have z0 := keep hS.b Z0.out); (have z1 := keep hS.b Z1.out); (have hl0 := World.block_lt_of_cell? w' _ z0); (have hrem := HREM.out); (have hwr := HWR.out); (have hn0 := HN0.out); clear hS; go_simp; first | done | exact rfl)); (case puttu10 => (first | (simp only [Act.put, List.setIfInBounds_toArray, List.set_cons_zero, List.set_cons_succ]; first | done | exact rfl) | rfl)); (case' nexttu10 => skip))
      (refine' GG.grow_lit (GG.TurnS.still (by decide)) rfl ?wttu11 ?runtu11 ?puttu11 ?nexttu11; (case wttu11 => rfl); (case runtu11 => (intro w' hS; (obtain ⟨dn, s, hS⟩ := hS); (have z0 := keep hS.b Z0.out); (have z1 := keep hS.b Z1.out); (have hl0 := World.block_lt_of_cell? w' _ z0); (have hrem := HREM.out); (have hwr := HWR.out); (have hn0 := HN0.out); clear hS; go_simp; first | done | exact rfl)); (case puttu11 => (first | (simp only [Act.put, List.setIfInBounds_toArray, List.set_cons_zero, List.set_cons_succ]; first | done | exact rfl) | rfl)); (case' nexttu11 => skip))
      (refine' GG.grow_lit (GG.TurnS.still (by decide)) rfl ?wttu12 ?runtu12 ?puttu12 ?nexttu12; (case wttu12 => rfl); (case runtu12 => (intro w' hS; (obtain ⟨dn, s, hS⟩ := hS); (have z0 := keep hS.b Z0.out); (have z1 := keep hS.b Z1.out); (have hl0 := World.block_lt_of_cell? w' _ z0); (have hrem := HREM.out); (have hwr := HWR.out); (have hn0 := HN0.out); clear hS; go_simp; first | done | exact rfl)); (case puttu12 => (first | (simp only [Act.put, List.setIfInBounds_toArray, List.set_cons_zero, List.set_cons_succ]; first | done | exact rfl) | rfl)); (case' nexttu12 => skip))
      (refine' GG.grow_lit (GG.TurnS.still (by decide)) rfl ?wttu13 ?runtu13 ?puttu13 ?nexttu13; (case wttu13 => rfl); (case runtu13 => (intro w' hS; (obtain ⟨dn, s, hS⟩ := hS); (have z0 := keep hS.b Z0.out); (have z1 := keep hS.b Z1.out); (have hl0 := World.block_lt_of_cell? w' _ z0); (have hrem := HREM.out); (have hwr := HWR.out); (have hn0 := HN0.out); clear hS; go_simp; first | done | exact rfl)); (case puttu13 => (first | (simp only [Act.put, List.setIfInBounds_toArray, List.set_cons_zero, List.set_cons_succ]; first | done | exact rfl) | rfl)); (case' nexttu13 => skip))
      (refine' GG.grow_lit (GG.TurnS.still (by decide)) rfl ?wttu14 ?runtu14 ?puttu14 ?nexttu14; (case wttu14 => rfl); (case runtu14 => (intro w' hS; (obtain ⟨dn, s, hS⟩ := hS); (have z0 := keep hS.b Z0.out); (have z1 := keep hS.b Z1.out); (have hl0 := World.block_lt_of_cell? w' _ z0); (have hrem := HREM.out); (have hwr := HWR.out); (have hn0 := HN0.out); clear hS; go_simp; first | done | exact rfl)); (case puttu14 => (first | (simp only [Act.put, List.setIfInBounds_toArray, List.set_cons_zero, List.set_cons_succ]; first | done | exact rfl) | rfl)); (case' nexttu14 => skip))
      (refine' GG.grow_lit (GG.TurnS.still (by decide)) rfl ?wttu15 ?runtu15 ?puttu15 ?nexttu15; (case wttu15 => rfl); (case runtu15 => (intro w' hS; (obtain ⟨dn, s, hS⟩ := hS); (have z0 := keep hS.b Z0.out); (have z1 := keep hS.b Z1.out); (have hl0 := World.block_lt_of_cell? w' _ z0); (have hrem := HREM.out); (have hwr := HWR.out); (have hn0 := HN0.out); clear hS; go_simp; first | done | exact rfl)); (case puttu15 => (first | (simp only [Act.put, List.setIfInBounds_toArray, List.set_cons_zero, List.set_cons_succ]; first | done | exact rfl) | rfl)); (case' nexttu15 => skip))
      (refine' GG.grow_lit (GG.TurnS.still (by decide)) rfl ?wttu16 ?runtu16 ?puttu16 ?nexttu16; (case wttu16 => rfl); (case runtu16 => (intro w' hS; (obtain ⟨dn, s, hS⟩ := hS); (have z0 := keep hS.b Z0.out); (have z1 := keep hS.b Z1.out); (have hl0 := World.block_lt_of_cell? w' _ z0); (have hrem := HREM.out); (have hwr := HWR.out); (have hn0 := HN0.out); clear hS; go_simp; first | done | exact rfl)); (case puttu16 => (first | (simp only [Act.put, List.setIfInBounds_toArray, List.set_cons_zero, List.set_cons_succ]; first | done | exact rfl) | rfl)); (case' nexttu16 => skip))
      (refine' GG.grow_lit (GG.TurnS.still (by decide)) rfl ?wttu17 ?runtu17 ?puttu17 ?nexttu17; (case wttu17 => rfl); (case runtu17 => (intro w' hS; (obtain ⟨dn, s, hS⟩ := hS); (have z0 := keep hS.b Z0.out); (have z1 := keep hS.b Z1.out); (have hl0 := World.block_lt_of_cell? w' _ z0); (have hrem := HREM.out); (have hwr := HWR.out); (have hn0 := HN0.out); clear hS; go_simp; first | done | exact rfl)); (case puttu17 => (first | (simp only [Act.put, List.setIfInBounds_toArray, List.set_cons_zero, List.set_cons_succ]; first | done | exact rfl) | rfl)); (case' nexttu17 => skip))
      (refine' GG.grow_lit (GG.TurnS.still (by decide)) rfl ?wttu18 ?runtu18 ?puttu18 ?nexttu18; (case wttu18 => rfl); (case runtu18 => (intro w' hS; (obtain ⟨dn, s, hS⟩ := hS); (have z0 := keep hS.b Z0.out); (have z1 := keep hS.b Z1.out); (have hl0 := World.block_lt_of_cell? w' _ z0); (have hrem := HREM.out); (have hwr := HWR.out); (have hn0 := HN0.out); clear hS; go_simp; first | done | exact rfl)); (case puttu18 => (first | (simp only [Act.put, List.setIfInBounds_toArray, List.set_cons_zero, List.set_cons_succ]; first | done | exact rfl) | rfl)); (case' nexttu18 => skip))
      (refine' GG.grow_any_op (p := GG.LitP #[.int .i64 (c : Int), .int .i64 (a : Int), .int .i64 (R : Int), .int .i64 (R : Int)]) (hp := GG.LitP.st #[.int .i64 (c : Int), .int .i64 (a : Int), .int .i64 (R : Int), .int .i64 (R : Int)]) rfl ?wttu19 ?runtu19 ?puttu19 ?nexttu19; (case wttu19 => rfl); (case runtu19 => (intro dn s w' hS hd H; (refine ⟨.slice (some ⟨w'.heap.size, 0, none⟩) 2 2, s, w'.alloc (.cells #[.int .i64 (c : Int), .int .i64 (a : Int), .int .i64 (R : Int), .int .i64 (R : Int)] 43), ?_, fun _ => ⟨w'.heap.size, rfl, Blk.new _ _ _ _ rfl⟩, (hS.step (by decide)).old (below_alloc1 _), ⟨id, fun _ => below_alloc1 _⟩, (below_alloc1 _).size⟩; clear hS hd H; go_simp))); (case puttu19 => (intro v; (simp only [Act.put, List.setIfInBounds_toArray, List.set_cons_zero, List.set_cons_succ]; first | done | exact rfl))); (case' nexttu19 => intro v19))
      (refine' GG.grow_any_op (p := GG.AppT w2 E N (k + 1)) (hp := GG.AppT.st w2 E N (k + 1)) rfl ?wttu20 ?runtu20 ?puttu20 ?nexttu20; (case wttu20 => rfl); (case runtu20 => (intro dn s w' hS hd H; (obtain rfl : s = false := hS.here.symm.trans hd); (obtain ⟨g, e19, kg⟩ := (show GG.LitP #[.int .i64 (c : Int), .int .i64 (a : Int), .int .i64 (R : Int), .int .i64 (R : Int)] v19 false w' from H 19 (by decide)) rfl); (obtain ⟨q', n', c', w7, hr, hP, hz⟩ := (hS.r rfl).app HAC.out (by have := HLE.out; omega) (Below.refl _ _) (by rw [HR.out]; exact kg)); subst e19; exact ⟨_, true, w7, GG.exec_append (.tmp 56) (.tmp 75) 22 rfl rfl rfl hr, ⟨rfl, ⟨_, _, _, rfl⟩, hP⟩, ⟨rfl, (fun h => by cases h), hP.b⟩, ⟨fun _ => rfl, fun h => by cases h⟩, hz⟩)); (case puttu20 => (intro v; (simp only [Act.put, List.setIfInBounds_toArray, List.set_cons_zero, List.set_cons_succ]; first | done | exact rfl))); (case' nexttu20 => intro v20))
      intro dn s w7 hS7 _ hk7
      obtain ⟨-, ⟨qz, nz, cz, rfl⟩, hP⟩ : GG.AppT w2 E N (k + 1) v20 s w7 := hk7 20 (by decide)
      have HP := Lib.hid hP
      clear hk7 hS7 hP SA0
      refine wpAny_ready (rs := [21]) (by kernel_rfl) (by simp) (AllReady.cons rfl (fun K hK => ?_) AllReady.nil)
      go_simp
      refine hK _ _ ?_
      clear hK K
      refine wpAny_done (by kernel_rfl) ?_ _
      go_wp2_with fail
      go_roundw
      case rel => exact ⟨k + 1, hlt, by go_num, HP.out⟩
      case measure => simp [intOf]; omega
    · obtain rfl : k = E.length := by omega
      have HTI : Hid (EdgIn N (turnE E N E.length)) := Lib.hid (turnE_in HEI.out HLN.out.1 _ (Nat.le_refl _))
      have HTL : Hid ((turnE E N E.length).length ≤ 300) := Lib.hid (by rw [turnE_len]; have := HLE.out; omega)
      have HTC : Hid (∀ S', crossS S' (turnE E N E.length) = crossS S' E) := Lib.hid fun S' => turnE_cross S' E N E.length
      have hb := HM.out.b
      have HT := Lib.hid (prs_of_owns HM.out.r (by rw [zE_len]; have := HTL.out; omega))
      clear HVL hm hlt hk
      clear HM
      obtain ⟨T, hT⟩ : ∃ T, turnE E N E.length = T := ⟨_, rfl⟩
      rw [hT] at HTI HTL HTC HT
      rw [hT]
      rw [zE_len] at HT
      rw [zE_len]
      clear hT
      have HB_ := Lib.hid (bOn6 HB.out hb)
      have HE_ := Lib.hid (HE.out.below hb)
      have HS_ := Lib.hid (HS.out.below hb)
      have HD_ := Lib.hid (HD.out.below hb)
      clear HB HE HS HD
      have HB := HB_
      have HE := HE_
      have HS := HS_
      have HD := HD_
      clear HB_ HE_ HS_ HD_
      clear hb
      go_wp2_with fail
      refine (max_is (N := N) (E := E) (S := S) (D := D) HE.out HS.out HD.out (by have := HLN.out; omega) (by have := HLE.out; omega) (HLS.out) (HLD.out) (okA_of HEI.out HSN.out HDN.out) (HEI.out) (HSN.out) (HDN.out)).mono ?_
      rintro e w4 ⟨hb, ⟨-, V1, f1, near1, far1, fv1, nv1, gv1, rfl, hf, hn, hg, hq⟩ | ⟨htw, -⟩⟩
      case inr => exact absurd htw HTW.out
      have HQ1 := Lib.hid hq
      obtain ⟨fq1, fc1, rfl⟩ := hf.shape
      obtain ⟨nq1, nc1, rfl⟩ := hn.shapeN hq.nl
      obtain ⟨gq1, gc1, rfl⟩ := hg.shapeN hq.gl
      obtain ⟨L1, hL⟩ : ∃ L, f1.length = L := ⟨_, rfl⟩
      rw [hL]
      rw [hL] at hf
      clear hL
      have HV1 : Hid (0 ≤ V1 ∧ V1 ≤ (E).length) := Lib.hid (by rw [← (hq.maxQ (HEI.out)).nearV]; exact crossTo_bd _ _ _)
      clear hq
      have HB_ := Lib.hid (bOn6 HB.out hb)
      have HE_ := Lib.hid (HE.out.below hb)
      have HS_ := Lib.hid (HS.out.below hb)
      have HD_ := Lib.hid (HD.out.below hb)
      have HT_ := Lib.hid (HT.out.below hb)
      clear HB HE HS HD HT
      have HB := HB_
      have HE := HE_
      have HS := HS_
      have HD := HD_
      have HT := HT_
      clear HB_ HE_ HS_ HD_ HT_
      clear hb
      have HF1 := Lib.hid hf
      have HN1 := Lib.hid hn
      have HGV1 := Lib.hid hg
      clear hf hn hg
      obtain ⟨x1, hx1⟩ := named (w4.alloc (.cells #[.int .i64 V1, .slice fq1 L1 fc1, .slice nq1 N nc1, .slice gq1 N gc1] 30))
      have hb : Below w4.heap.size w4 x1 := by rw [hx1]; exact below_alloc1 _
      obtain ⟨g1, hg1⟩ : ∃ g, w4.heap.size = g := ⟨_, rfl⟩
      have kb : Blk x1 g1 #[.int .i64 V1, .slice fq1 L1 fc1, .slice nq1 N nc1, .slice gq1 N gc1] 30 := by rw [hx1]; exact Blk.new _ _ _ _ hg1
      have HB_ := Lib.hid (bOn6 HB.out hb)
      have HE_ := Lib.hid (HE.out.below hb)
      have HS_ := Lib.hid (HS.out.below hb)
      have HD_ := Lib.hid (HD.out.below hb)
      have HT_ := Lib.hid (HT.out.below hb)
      have HF1_ := Lib.hid (HF1.out.below hb)
      have HN1_ := Lib.hid (HN1.out.below hb)
      have HGV1_ := Lib.hid (HGV1.out.below hb)
      clear HB HE HS HD HT HF1 HN1 HGV1
      have HB := HB_
      have HE := HE_
      have HS := HS_
      have HD := HD_
      have HT := HT_
      have HF1 := HF1_
      have HN1 := HN1_
      have HGV1 := HGV1_
      clear HB_ HE_ HS_ HD_ HT_ HF1_ HN1_ HGV1_
      have KR1 := Lib.hid (kb)
      have e1 := hx1.symm
      have z1 : Hid (x1.heap.size = w4.heap.size + 1) := Lib.hid (by rw [hx1]; simp)
      clear hb kb hx1
      go_wp2_with fail
      clear e1 z1
      refine (max_is (N := N) (E := E) (S := D) (D := S) HE.out HD.out HS.out (by have := HLN.out; omega) (by have := HLE.out; omega) (HLD.out) (HLS.out) (okA_of HEI.out HDN.out HSN.out) (HEI.out) (HDN.out) (HSN.out)).mono ?_
      rintro e w5 ⟨hb, ⟨-, V2, f2, near2, far2, fv2, nv2, gv2, rfl, hf, hn, hg, hq⟩ | ⟨htw, -⟩⟩
      case inr => exact absurd htw (fun h => HTW.out (Twice.swap h))
      have HQ2 := Lib.hid hq
      obtain ⟨fq2, fc2, rfl⟩ := hf.shape
      obtain ⟨nq2, nc2, rfl⟩ := hn.shapeN hq.nl
      obtain ⟨gq2, gc2, rfl⟩ := hg.shapeN hq.gl
      obtain ⟨L2, hL⟩ : ∃ L, f2.length = L := ⟨_, rfl⟩
      rw [hL]
      rw [hL] at hf
      clear hL
      have HV2 : Hid (0 ≤ V2 ∧ V2 ≤ (E).length) := Lib.hid (by rw [← (hq.maxQ (HEI.out)).nearV]; exact crossTo_bd _ _ _)
      clear hq
      have HB_ := Lib.hid (bOn6 HB.out hb)
      have HE_ := Lib.hid (HE.out.below hb)
      have HS_ := Lib.hid (HS.out.below hb)
      have HD_ := Lib.hid (HD.out.below hb)
      have HT_ := Lib.hid (HT.out.below hb)
      have HF1_ := Lib.hid (HF1.out.below hb)
      have HN1_ := Lib.hid (HN1.out.below hb)
      have HGV1_ := Lib.hid (HGV1.out.below hb)
      have KR1_ := Lib.hid (KR1.out.keep hb)
      clear HB HE HS HD HT HF1 HN1 HGV1 KR1
      have HB := HB_
      have HE := HE_
      have HS := HS_
      have HD := HD_
      have HT := HT_
      have HF1 := HF1_
      have HN1 := HN1_
      have HGV1 := HGV1_
      have KR1 := KR1_
      clear HB_ HE_ HS_ HD_ HT_ HF1_ HN1_ HGV1_ KR1_
      clear hb
      have HF2 := Lib.hid hf
      have HN2 := Lib.hid hn
      have HGV2 := Lib.hid hg
      clear hf hn hg
      obtain ⟨x2, hx2⟩ := named (w5.alloc (.cells #[.int .i64 V2, .slice fq2 L2 fc2, .slice nq2 N nc2, .slice gq2 N gc2] 30))
      have hb : Below w5.heap.size w5 x2 := by rw [hx2]; exact below_alloc1 _
      obtain ⟨g2, hg2⟩ : ∃ g, w5.heap.size = g := ⟨_, rfl⟩
      have kb : Blk x2 g2 #[.int .i64 V2, .slice fq2 L2 fc2, .slice nq2 N nc2, .slice gq2 N gc2] 30 := by rw [hx2]; exact Blk.new _ _ _ _ hg2
      have HB_ := Lib.hid (bOn6 HB.out hb)
      have HE_ := Lib.hid (HE.out.below hb)
      have HS_ := Lib.hid (HS.out.below hb)
      have HD_ := Lib.hid (HD.out.below hb)
      have HT_ := Lib.hid (HT.out.below hb)
      have HF1_ := Lib.hid (HF1.out.below hb)
      have HN1_ := Lib.hid (HN1.out.below hb)
      have HGV1_ := Lib.hid (HGV1.out.below hb)
      have KR1_ := Lib.hid (KR1.out.keep hb)
      have HF2_ := Lib.hid (HF2.out.below hb)
      have HN2_ := Lib.hid (HN2.out.below hb)
      have HGV2_ := Lib.hid (HGV2.out.below hb)
      clear HB HE HS HD HT HF1 HN1 HGV1 KR1 HF2 HN2 HGV2
      have HB := HB_
      have HE := HE_
      have HS := HS_
      have HD := HD_
      have HT := HT_
      have HF1 := HF1_
      have HN1 := HN1_
      have HGV1 := HGV1_
      have KR1 := KR1_
      have HF2 := HF2_
      have HN2 := HN2_
      have HGV2 := HGV2_
      clear HB_ HE_ HS_ HD_ HT_ HF1_ HN1_ HGV1_ KR1_ HF2_ HN2_ HGV2_
      have KR2 := Lib.hid (kb)
      have e2 := hx2.symm
      have z2 : Hid (x2.heap.size = w5.heap.size + 1) := Lib.hid (by rw [hx2]; simp)
      clear hb kb hx2
      go_wp2_with fail
      clear e2 z2
      refine (max_is (N := N) (E := T) (S := S) (D := D) HT.out HS.out HD.out (by have := HLN.out; omega) (by have := HTL.out; omega) (HLS.out) (HLD.out) (okA_of HTI.out HSN.out HDN.out) (HTI.out) (HSN.out) (HDN.out)).mono ?_
      rintro e w6 ⟨hb, ⟨-, V3, f3, near3, far3, fv3, nv3, gv3, rfl, hf, hn, hg, hq⟩ | ⟨htw, -⟩⟩
      case inr => exact absurd htw HTW.out
      have HQ3 := Lib.hid hq
      obtain ⟨fq3, fc3, rfl⟩ := hf.shape
      obtain ⟨nq3, nc3, rfl⟩ := hn.shapeN hq.nl
      obtain ⟨gq3, gc3, rfl⟩ := hg.shapeN hq.gl
      obtain ⟨L3, hL⟩ : ∃ L, f3.length = L := ⟨_, rfl⟩
      rw [hL]
      rw [hL] at hf
      clear hL
      have HV3 : Hid (0 ≤ V3 ∧ V3 ≤ (T).length) := Lib.hid (by rw [← (hq.maxQ (HTI.out)).nearV]; exact crossTo_bd _ _ _)
      clear hq
      have HB_ := Lib.hid (bOn6 HB.out hb)
      have HE_ := Lib.hid (HE.out.below hb)
      have HS_ := Lib.hid (HS.out.below hb)
      have HD_ := Lib.hid (HD.out.below hb)
      have HT_ := Lib.hid (HT.out.below hb)
      have HF1_ := Lib.hid (HF1.out.below hb)
      have HN1_ := Lib.hid (HN1.out.below hb)
      have HGV1_ := Lib.hid (HGV1.out.below hb)
      have KR1_ := Lib.hid (KR1.out.keep hb)
      have HF2_ := Lib.hid (HF2.out.below hb)
      have HN2_ := Lib.hid (HN2.out.below hb)
      have HGV2_ := Lib.hid (HGV2.out.below hb)
      have KR2_ := Lib.hid (KR2.out.keep hb)
      clear HB HE HS HD HT HF1 HN1 HGV1 KR1 HF2 HN2 HGV2 KR2
      have HB := HB_
      have HE := HE_
      have HS := HS_
      have HD := HD_
      have HT := HT_
      have HF1 := HF1_
      have HN1 := HN1_
      have HGV1 := HGV1_
      have KR1 := KR1_
      have HF2 := HF2_
      have HN2 := HN2_
      have HGV2 := HGV2_
      have KR2 := KR2_
      clear HB_ HE_ HS_ HD_ HT_ HF1_ HN1_ HGV1_ KR1_ HF2_ HN2_ HGV2_ KR2_
      clear hb
      have HF3 := Lib.hid hf
      have HN3 := Lib.hid hn
      have HGV3 := Lib.hid hg
      clear hf hn hg
      obtain ⟨x3, hx3⟩ := named (w6.alloc (.cells #[.int .i64 V3, .slice fq3 L3 fc3, .slice nq3 N nc3, .slice gq3 N gc3] 30))
      have hb : Below w6.heap.size w6 x3 := by rw [hx3]; exact below_alloc1 _
      obtain ⟨g3, hg3⟩ : ∃ g, w6.heap.size = g := ⟨_, rfl⟩
      have kb : Blk x3 g3 #[.int .i64 V3, .slice fq3 L3 fc3, .slice nq3 N nc3, .slice gq3 N gc3] 30 := by rw [hx3]; exact Blk.new _ _ _ _ hg3
      have HB_ := Lib.hid (bOn6 HB.out hb)
      have HE_ := Lib.hid (HE.out.below hb)
      have HS_ := Lib.hid (HS.out.below hb)
      have HD_ := Lib.hid (HD.out.below hb)
      have HT_ := Lib.hid (HT.out.below hb)
      have HF1_ := Lib.hid (HF1.out.below hb)
      have HN1_ := Lib.hid (HN1.out.below hb)
      have HGV1_ := Lib.hid (HGV1.out.below hb)
      have KR1_ := Lib.hid (KR1.out.keep hb)
      have HF2_ := Lib.hid (HF2.out.below hb)
      have HN2_ := Lib.hid (HN2.out.below hb)
      have HGV2_ := Lib.hid (HGV2.out.below hb)
      have KR2_ := Lib.hid (KR2.out.keep hb)
      have HF3_ := Lib.hid (HF3.out.below hb)
      have HN3_ := Lib.hid (HN3.out.below hb)
      have HGV3_ := Lib.hid (HGV3.out.below hb)
      clear HB HE HS HD HT HF1 HN1 HGV1 KR1 HF2 HN2 HGV2 KR2 HF3 HN3 HGV3
      have HB := HB_
      have HE := HE_
      have HS := HS_
      have HD := HD_
      have HT := HT_
      have HF1 := HF1_
      have HN1 := HN1_
      have HGV1 := HGV1_
      have KR1 := KR1_
      have HF2 := HF2_
      have HN2 := HN2_
      have HGV2 := HGV2_
      have KR2 := KR2_
      have HF3 := HF3_
      have HN3 := HN3_
      have HGV3 := HGV3_
      clear HB_ HE_ HS_ HD_ HT_ HF1_ HN1_ HGV1_ KR1_ HF2_ HN2_ HGV2_ KR2_ HF3_ HN3_ HGV3_
      have KR3 := Lib.hid (kb)
      have e3 := hx3.symm
      have z3 : Hid (x3.heap.size = w6.heap.size + 1) := Lib.hid (by rw [hx3]; simp)
      clear hb kb hx3
      obtain ⟨u12, ub, uc⟩ := (HQ1.out.maxQ HEI.out).swap.uniq (HQ2.out.maxQ HEI.out)
      obtain ⟨u13, uf, ug⟩ := ((HQ1.out.maxQ HEI.out).cross HTC.out).uniq (HQ3.out.maxQ HTI.out)
      subst u12 u13
      obtain rfl : near1 = near3 := setB_ext (by rw [HQ1.out.nl, HQ3.out.nl]) (fun v hv => by rw [HQ1.out.nl] at hv; rw [uf v hv])
      obtain rfl : far1 = far3 := setB_ext (by rw [HQ1.out.gl, HQ3.out.gl]) (fun v hv => by rw [HQ1.out.gl] at hv; rw [ug v hv])
      clear uf ug
      have UB := Lib.hid ub
      have UC := Lib.hid uc
      clear ub uc
      have HL1 := Lib.hid HQ1.out.nl
      have HL2 := Lib.hid HQ1.out.gl
      have HL3 := Lib.hid HQ2.out.nl
      have HL4 := Lib.hid HQ2.out.gl
      have HN1' := Lib.hid (HN3.out.shapeN HL1.out)
      clear HQ1 HQ2 HQ3 HTI HTC HTL HN1' HEI HSN HDN HTW HV1 HV2 HV3
      obtain ⟨k0, k1, k2, k3, -⟩ := KR1.out.o4
      obtain ⟨m0, m1, m2, m3, -⟩ := KR2.out.o4
      obtain ⟨p0, p1, p2, p3, -⟩ := KR3.out.o4
      have kl := KR1.out.lt
      have ml := KR2.out.lt
      have pl := KR3.out.lt
      go_wp2_with fail
      clear k0 k1 k2 k3 m0 m1 m2 m3 p0 p1 p2 p3 kl ml pl
      go_loopw [17] (fun iv wr => TurnLoop x3 N iv wr) (fun iv _ => N - (intOf iv).toNat)
      case atStart => exact ⟨0, Nat.zero_le _, rfl, Below.refl _ _⟩
      case round =>
        obtain ⟨i, hi, rfl, hb⟩ := hrel
        have HM := Lib.hid hb
        have HB_ := Lib.hid (bOn6 HB.out hb)
        have HE_ := Lib.hid (HE.out.below hb)
        have HS_ := Lib.hid (HS.out.below hb)
        have HD_ := Lib.hid (HD.out.below hb)
        have HT_ := Lib.hid (HT.out.below hb)
        have HF1_ := Lib.hid (HF1.out.below hb)
        have HN1_ := Lib.hid (HN1.out.below hb)
        have HGV1_ := Lib.hid (HGV1.out.below hb)
        have KR1_ := Lib.hid (KR1.out.keep hb)
        have HF2_ := Lib.hid (HF2.out.below hb)
        have HN2_ := Lib.hid (HN2.out.below hb)
        have HGV2_ := Lib.hid (HGV2.out.below hb)
        have KR2_ := Lib.hid (KR2.out.keep hb)
        have HF3_ := Lib.hid (HF3.out.below hb)
        have HN3_ := Lib.hid (HN3.out.below hb)
        have HGV3_ := Lib.hid (HGV3.out.below hb)
        have KR3_ := Lib.hid (KR3.out.keep hb)
        clear HB HE HS HD HT HF1 HN1 HGV1 KR1 HF2 HN2 HGV2 KR2 HF3 HN3 HGV3 KR3
        have HB := HB_
        have HE := HE_
        have HS := HS_
        have HD := HD_
        have HT := HT_
        have HF1 := HF1_
        have HN1 := HN1_
        have HGV1 := HGV1_
        have KR1 := KR1_
        have HF2 := HF2_
        have HN2 := HN2_
        have HGV2 := HGV2_
        have KR2 := KR2_
        have HF3 := HF3_
        have HN3 := HN3_
        have HGV3 := HGV3_
        have KR3 := KR3_
        clear HB_ HE_ HS_ HD_ HT_ HF1_ HN1_ HGV1_ KR1_ HF2_ HN2_ HGV2_ KR2_ HF3_ HN3_ HGV3_ KR3_
        clear hb
        obtain ⟨k0, k1, k2, k3, -⟩ := KR1.out.o4
        obtain ⟨m0, m1, m2, m3, -⟩ := KR2.out.o4
        obtain ⟨p0, p1, p2, p3, -⟩ := KR3.out.o4
        have kl := KR1.out.lt
        have ml := KR2.out.lt
        have pl := KR3.out.lt
        by_cases hlt : i < N
        · have hii : (i : Int) < (N : Int) := by omega
          have hwk : IntKind.i64.wrap ((i : Int) + 1) = (i : Int) + 1 := IntWalk.i64_in _ (by have := HLN.out; omega)
          obtain ⟨n1b, n1o, rfl, x1, l1⟩ := HN1.out.atN (k := i) (by rw [HL1.out]; exact hlt)
          obtain ⟨f1b, f1o, rfl, x2, l2⟩ := HGV1.out.atN (k := i) (by rw [HL2.out]; exact hlt)
          obtain ⟨n2b, n2o, rfl, x3, l3⟩ := HN2.out.atN (k := i) (by rw [HL3.out]; exact hlt)
          obtain ⟨f2b, f2o, rfl, x4, l4⟩ := HGV2.out.atN (k := i) (by rw [HL4.out]; exact hlt)
          rw [← UB.out i hlt] at x3
          rw [← UC.out i hlt] at x4
          generalize setB near1 i = b1 at x1 x4
          generalize setB far1 i = b2 at x2 x3
          cases b1 <;> cases b2
          all_goals
            simp only [Bool.not_true, Bool.not_false] at x3 x4
            go_wp2_with fail
            go_quiet (fail)
            obtain ⟨w9, hw9⟩ := named (wr.drewN nq)
            have hb9 : Below wr.heap.size wr w9 := by rw [hw9]; exact below_drewN (Below.refl _ _) nq
            rw [← hw9]
            have HM2 := Lib.hid (bOn6 HM.out hb9)
            clear hb9 hw9 x1 x2 x3 x4 l1 l2 l3 l4 k0 k1 k2 k3 m0 m1 m2 m3 p0 p1 p2 p3 kl ml pl
            go_wp2_with fail
            go_roundw
            case rel => exact ⟨i + 1, hlt, by go_num, HM2.out⟩
            case measure => simp [intOf]; omega
        · obtain rfl : i = N := by omega
          clear hlt hi
          go_wp2_with fail
          refine (sameB_is (b := true) HN1.out HN3.out (by simp)).mono ?_
          rintro e w10 ⟨rfl, hb⟩
          have HN1_ := Lib.hid (HGV1.out.below hb)
          have HN3_ := Lib.hid (HGV3.out.below hb)
          have KR1_ := Lib.hid (KR1.out.keep hb)
          have KR3_ := Lib.hid (KR3.out.keep hb)
          have HB_ := Lib.hid (bOn6 HB.out hb)
          clear k0 k1 k2 k3 m0 m1 m2 m3 p0 p1 p2 p3 kl ml pl hb
          obtain ⟨k0, k1, k2, k3, -⟩ := KR1_.out.o4
          obtain ⟨p0, p1, p2, p3, -⟩ := KR3_.out.o4
          have kl := KR1_.out.lt
          have pl := KR3_.out.lt
          go_wp2_with fail
          refine (sameB_is (b := true) HN1_.out HN3_.out (by simp)).mono ?_
          rintro e w11 ⟨rfl, hb⟩
          have HB2 := Lib.hid (bOn6 HB_.out hb)
          clear k0 k1 k2 k3 p0 p1 p2 p3 kl pl hb
          go_wp2_with fail
          go_ret
          exact ⟨rfl, HB2.out⟩
set_option maxRecDepth 100000 in
theorem flowTurned_walks : Walks laidAll 5 Tryd.f5 := by
  intro H enc W args ds g
  obtain ⟨ps, hA⟩ := g.reads
  obtain ⟨base, hval⟩ := g.okay
  rw [Tryd.params5] at hA hval
  obtain ⟨v0, vs0, d0, ds0, p0, q0, hargs, rfl, rfl, h0, r0⟩ := trodAll_cons hA
  obtain ⟨v1, vs1, d1, ds1, p1, q1, rfl, rfl, rfl, h1, r1⟩ := trodAll_cons r0
  obtain ⟨v2, vs2, d2, ds2, p2, q2, rfl, rfl, rfl, h2, r2⟩ := trodAll_cons r1
  obtain ⟨v3, vs3, d3, ds3, p3, q3, rfl, rfl, rfl, h3, r3⟩ := trodAll_cons r2
  obtain ⟨rfl, rfl, rfl⟩ := trodAll_nil r3
  obtain rfl : args = #[v0, v1, v2, v3] := Array.toList_inj.1 hargs
  obtain ⟨x0, rfl, rfl, rfl, w0⟩ := open_int Tryd.underlying3 (hval 0 3 v0 rfl rfl) h0
  obtain ⟨x1, w1, u1⟩ := open_edges (hval 1 22 v1 rfl rfl) h1
  obtain ⟨x2, w2, u2⟩ := open_intsIn (hval 2 23 v2 rfl rfl) h2
  obtain ⟨x3, w3, u3⟩ := open_intsIn (hval 3 23 v3 rfl rfl) h3
  exact turned_walk x0 v1 x1 v2 x2 v3 x3 W (errT_of_laid g.laid) (wf64 w0).1 (wf64 w0).2 w1 u1 w2 u2 w3 u3

theorem flowTurned_row : Rows.FlowTurnedSaid :=
  OpenClaim.holds_of_wide 5 Tryd.f5 rfl rfl rfl rfl rfl rfl rfl ⟨rfl, rfl, rfl, rfl, rfl⟩ rfl rfl rfl rfl rfl (by kernel_rfl) Tryd.func5 (by kernel_rfl)
    (of_decide_eq_true (by kernel_rfl)) (by unfold Func.isWrapper; rw [if_neg (of_decide_eq_false (by kernel_rfl))]; exact ⟨rfl, rfl⟩)
    (fun os started H enc _ => law_lifted (s := Rows.flowTurnedSpec) (L := laidAll) Tryd.func5 (by kernel_rfl) rfl (by kernel_rfl)
      (fun H ds hl => by
        rw [Tryd.params5] at hl
        match ds, hl with
        | [_, _, _, _], _ => exact ⟨rfl, rfl, rfl⟩)
      (by kernel_rfl) os started H enc
      (ChangeSpec.witness_at (enc := enc) (C := Tryd.checked) (os := os) (X := fun w _ => laidMetH Tryd.prog laidAll w) false (laidWorld os) #[.int .i64 0, .slice none 0 0, .slice none 0 0, .slice none 0 0] 8 rfl (by kernel_rfl) (by kernel_rfl) (by kernel_rfl) (by kernel_rfl) (by kernel_rfl) (laidWorld_met os _))
      flowTurned_walks)

theorem flowTurned_card : Rows.FlowTurnedCardSaid :=
  Claim7.holds_tied_plain_at .later [] laidKindsAll true (Rows.flowTurnedCard.stood.harness) true
    flowTurned_row (fun _ h => by cases h) (by kernel_rfl) (fun _ h => by cases h) flowTurned_row_tie rfl ⟨rfl, rfl⟩ (by kernel_rfl) rfl
    (fun f fn hf hfn => by
      obtain rfl : f = 5 := Option.some.inj ((show Tryd.prog.funcNamed "roundsman/roundsmanlaw9.FlowTurned" = some 5 by kernel_rfl).symm.trans hf) |>.symm
      obtain rfl : fn = Tryd.f5 := (Option.some.inj (Tryd.func5.symm.trans hfn)).symm
      exact ⟨by kernel_rfl, fun j t ht => by
        rw [Tryd.params5] at ht
        exact stand_all #[3, 22, 23, 23] (by kernel_rfl) j t ht⟩)
    (by kernel_rfl)
#print axioms flowTurned_card
end Go.Proofs.YtgihaakgadmidaaDoor
