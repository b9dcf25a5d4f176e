/-
  PROVED: points that are moved all alike, edges that are told the other way round or from a point to itself, leave the splits as they are.
-/
import Derived.Test.YthfljimgpcignaaDoorG25
import Derived.Test.YthfljimgpcignaaDoorLift
import Derived.RegionTactic
import Derived.BigQuiet
import Derived.IntWalk
import Derived.Test.YthfljimgpcignaaDoorCards
import Derived.Test.YthfljimgpcignaaDoorTie
import Derived.SevenTiedAt
namespace Go.Proofs.YthfljimgpcignaaDoor
open Go.ChangeShapes Go.WideShapes Go.ChangeAt Go.RowKit Go.Sort

theorem zE_ofM {N : Nat} {es : List (Int × Int)} (h : ∀ x, x ∈ es → zPair N x) : ∃ F, es = zE F := by
  refine ⟨es.map fun x => (x.1.toNat, x.2.toNat), ?_⟩
  unfold zE
  rw [List.map_map]
  refine ((List.map_congr_left fun x hx => ?_).trans (List.map_id _)).symm
  obtain ⟨⟨h1, -⟩, h2, -⟩ := h x hx
  show (((x.1.toNat : Nat) : Int), ((x.2.toNat : Nat) : Int)) = id x
  rw [Int.toNat_of_nonneg h1, Int.toNat_of_nonneg h2]
  rfl
def MvCmp (w : World) (iv : Value) (wr : World) : Prop := ∃ i : Nat, i ≤ 12 ∧ iv = .int .i64 i ∧ Below w.heap.size w wr
def TrRel (w : World) (l : List (Int × Int)) (E : Edg) (dx dy : Int) (v9 v10 iv : Value) (wr : World) : Prop := ∃ k : Nat, k ≤ E.length ∧ iv = .int .i64 k ∧ PT w (movD dx dy l) v9 (zE (turnF E l.length k)) v10 wr
def MvRel (w : World) (l : List (Int × Int)) (dx dy : Int) (v9 iv : Value) (wr : World) : Prop := ∃ k : Nat, k ≤ l.length ∧ iv = .int .i64 k ∧ PT w (movD dx dy (l.take k)) v9 [] (.slice none 0 0) wr
set_option maxHeartbeats 8000000 in
set_option maxRecDepth 100000 in
theorem moved_walk (pv ev : Value) (l es : List (Int × Int)) (dx dy : Int) (w : World) (hk : Calls Tryd.prog 6 #[] w fun e w' => e = .returned (.bool true) ∧ Below w.heap.size w w') (hall : AllC) (hp : Prs w pv l) (he : Prs w ev es) (HDX : Hid ((-32768 ≤ dx ∧ dx ≤ 32767) ∧ -32768 ≤ dy ∧ dy ≤ 32767)) :
    Calls Tryd.prog 4 #[pv, ev, .int .i16 dx, .int .i16 dy] w fun e w' => e = .returned (.bool true) ∧ Below w.heap.size w w' := by
  obtain ⟨pq0, pc0, rfl⟩ := hp.shape
  obtain ⟨eq0, ec0, rfl⟩ := he.shape
  have HB := Lib.hid (Below.refl w.heap.size w)
  have HP := Lib.hid hp
  have HE := Lib.hid he
  clear hp he
  go_enter Tryd.func4, Tryd.ntmps4
  go_wp2_with fail
  refine (hk).mono ?_
  rintro e w1 ⟨rfl, hb⟩
  have HB_ := Lib.hid (bOn6 HB.out hb)
  have HP_ := Lib.hid (HP.out.below hb)
  have HE_ := Lib.hid (HE.out.below hb)
  clear HB HP HE
  have HB := HB_
  have HP := HP_
  have HE := HE_
  clear HB_ HP_ HE_
  clear hb
  go_wp2_with fail
  obtain ⟨fw, hfw⟩ : ∃ fw, decide (l.length ≤ 24 ∧ es.length ≤ 80) = fw := ⟨_, rfl⟩
  refine (few_is HP.out HE.out).mono ?_
  rintro e w2 ⟨rfl, rfl⟩
  rw [hfw]
  cases fw
  · go_wp2_with fail
    go_ret
    exact ⟨rfl, HB.out⟩
  have HFW := Lib.hid (of_decide_eq_true hfw)
  clear hfw
  go_wp2_with fail
  refine (checkCut_is HP.out HE.out).mono ?_
  rintro e w3 ⟨q9, n9, m9, er, rfl, her, hb⟩
  have HER := Lib.hid her
  have hfl9 := wr_field1 (.slice q9 n9 m9) (.int .i64 er) w3
  clear her
  have HB_ := Lib.hid (bOn6 HB.out hb)
  have HP_ := Lib.hid (HP.out.below hb)
  have HE_ := Lib.hid (HE.out.below hb)
  clear HB HP HE
  have HB := HB_
  have HP := HP_
  have HE := HE_
  clear HB_ HP_ HE_
  clear hb
  by_cases hq : OkC l es
  case neg =>
    have d9 : (er != 0) = true := by
      simp only [bne_iff_ne, ne_eq]
      exact fun e => hq (HER.out.1 e)
    have d9b : (er == 0) = false := by simpa using d9
    go_wp2_with fail
    go_ret
    exact ⟨rfl, HB.out⟩
  have d9 : (er != 0) = false := by
    simp only [bne_eq_false_iff_eq]
    exact HER.out.2 hq
  have d9b : (er == 0) = true := by simpa using d9
  obtain ⟨E, rfl⟩ := zE_ofM hq.e
  have HOK := Lib.hid hq
  clear hq
  go_wp2_with fail
  clear d9 d9b hfl9 HER
  go_loopw [9, 11] (fun v9 iv wr => MvRel w3 l dx dy v9 iv wr) (fun _ iv _ => l.length - (intOf iv).toNat)
  case atStart => exact ⟨0, Nat.zero_le _, rfl, by rw [List.take_zero]; exact PT.nil⟩
  case round =>
    obtain ⟨k, hk, rfl, hm⟩ := hrel
    by_cases hlt : k < l.length
    · have HM := Lib.hid hm
      have hki : (k : Int) < (l.length : Int) := by omega
      obtain ⟨⟨x, y⟩, hxy⟩ : ∃ e, l[k]? = some e := ⟨_, List.getElem?_eq_getElem hlt⟩
      obtain ⟨eb, eo, rfl, z0, z1, -⟩ := HP.out.atP hxy
      have Z0 := Lib.hid z0
      have Z1 := Lib.hid z1
      have hxe : l[k] = (x, y) := (List.getElem?_eq_some_iff.1 hxy).2
      have HM1 := Lib.hid (movD_snoc (dx := dx) (dy := dy) hlt hxe)
      have hco := HOK.out.p (x, y) (List.mem_of_getElem? hxy)
      unfold coordB at hco
      simp only [decide_eq_true_eq] at hco
      have WX : Hid (IntKind.i64.wrap dx = dx ∧ IntKind.i64.wrap dy = dy ∧ IntKind.i64.wrap (x + dx) = x + dx ∧ IntKind.i64.wrap (y + dy) = y + dy) := Lib.hid ⟨IntWalk.i64_in _ (by have := HDX.out; omega), IntWalk.i64_in _ (by have := HDX.out; omega), IntWalk.i64_in _ (by have := HDX.out; omega), IntWalk.i64_in _ (by have := HDX.out; omega)⟩
      have HL1 : Hid ((movD dx dy (l.take k)).length ≤ 100000) := Lib.hid (by rw [movD_len, List.length_take]; have := HFW.out.1; omega)
      have SA0 : Hid (GG.ApS 19 (PT w3 (movD dx dy (l.take k)) u9 [] (.slice none 0 0)) w3 (fun _ => false) false wr.drew) := Lib.hid ⟨rfl, fun _ => PT.stab _ _ HM.out (Below.refl _ _).drew, HM.out.b.drew⟩
      have hwk : IntKind.i64.wrap ((k : Int) + 1) = (k : Int) + 1 := IntWalk.i64_in _ (by have := HFW.out.1; omega)
      clear z0 z1 hxy hxe hm hco
      go_wp2_with fail
      refine' GG.wp_thenL _ 20 (GG.ApS 19 (PT w3 (movD dx dy (l.take k)) u9 [] (.slice none 0 0)) w3) [[], [], [], [1, 2], [1, 2, 3], [1, 2, 3, 4], [], [6], [1, 2, 3, 4, 5, 6, 7], [], [], [9, 10], [9, 10, 11], [9, 10, 11, 12], [], [14], [9, 10, 11, 12, 13, 14, 15], [1, 2, 3, 4, 5, 6, 7, 8, 9, 10, 11, 12, 13, 14, 15, 16], [1, 2, 3, 4, 5, 6, 7, 8, 9, 10, 11, 12, 13, 14, 15, 16, 17], [0, 1, 2, 3, 4, 5, 6, 7, 8, 9, 10, 11, 12, 13, 14, 15, 16, 17, 18]] (GG.Fact.lit (Rl := GG.RlA) _ :: GG.Fact.lit (Rl := GG.RlA) _ :: GG.Fact.lit (Rl := GG.RlA) _ :: GG.Fact.lit (Rl := GG.RlA) _ :: GG.Fact.lit (Rl := GG.RlA) _ :: GG.Fact.lit (Rl := GG.RlA) _ :: GG.Fact.lit (Rl := GG.RlA) _ :: GG.Fact.lit (Rl := GG.RlA) _ :: GG.Fact.lit (Rl := GG.RlA) _ :: GG.Fact.lit (Rl := GG.RlA) _ :: GG.Fact.lit (Rl := GG.RlA) _ :: GG.Fact.lit (Rl := GG.RlA) _ :: GG.Fact.lit (Rl := GG.RlA) _ :: GG.Fact.lit (Rl := GG.RlA) _ :: GG.Fact.lit (Rl := GG.RlA) _ :: GG.Fact.lit (Rl := GG.RlA) _ :: GG.Fact.lit (Rl := GG.RlA) _ :: GG.Fact.lit (Rl := GG.RlA) _ :: GG.Fact.prop (Rl := GG.RlA) _ _ :: GG.Fact.prop (Rl := GG.RlA) _ _ :: []) (by kernel_rfl) rfl (by kernel_rfl) (false) (SA0.out) ?seqta
      case' seqta => skip
      (refine' GG.grow_lit (GG.ApS.still (by decide)) rfl ?wtta0 ?runta0 ?putta0 ?nextta0; (case wtta0 => rfl); (case runta0 => (intro w' hS; (obtain ⟨dn, s, hS⟩ := hS); (have z0 := keep hS.b Z0.out); (have z1 := keep hS.b Z1.out); (have zl := World.block_lt_of_cell? _ _ z0); (obtain ⟨wx, wy, wx2, wy2⟩ := WX.out); clear hS; go_simp; first | done | exact rfl)); (case putta0 => (first | (simp only [Act.put, List.setIfInBounds_toArray, List.set_cons_zero, List.set_cons_succ]; first | done | exact rfl) | rfl)); (case' nextta0 => skip))
      (refine' GG.grow_lit (GG.ApS.still (by decide)) rfl ?wtta1 ?runta1 ?putta1 ?nextta1; (case wtta1 => rfl); (case runta1 => (intro w' hS; (obtain ⟨dn, s, hS⟩ := hS); (have z0 := keep hS.b Z0.out); (have z1 := keep hS.b Z1.out); (have zl := World.block_lt_of_cell? _ _ z0); (obtain ⟨wx, wy, wx2, wy2⟩ := WX.out); clear hS; go_simp; first | done | exact rfl)); (case putta1 => (first | (simp only [Act.put, List.setIfInBounds_toArray, List.set_cons_zero, List.set_cons_succ]; first | done | exact rfl) | rfl)); (case' nextta1 => skip))
      (refine' GG.grow_lit (GG.ApS.still (by decide)) rfl ?wtta2 ?runta2 ?putta2 ?nextta2; (case wtta2 => rfl); (case runta2 => (intro w' hS; (obtain ⟨dn, s, hS⟩ := hS); (have z0 := keep hS.b Z0.out); (have z1 := keep hS.b Z1.out); (have zl := World.block_lt_of_cell? _ _ z0); (obtain ⟨wx, wy, wx2, wy2⟩ := WX.out); clear hS; go_simp; first | done | exact rfl)); (case putta2 => (first | (simp only [Act.put, List.setIfInBounds_toArray, List.set_cons_zero, List.set_cons_succ]; first | done | exact rfl) | rfl)); (case' nextta2 => skip))
      (refine' GG.grow_lit (GG.ApS.still (by decide)) rfl ?wtta3 ?runta3 ?putta3 ?nextta3; (case wtta3 => rfl); (case runta3 => (intro w' hS; (obtain ⟨dn, s, hS⟩ := hS); (have z0 := keep hS.b Z0.out); (have z1 := keep hS.b Z1.out); (have zl := World.block_lt_of_cell? _ _ z0); (obtain ⟨wx, wy, wx2, wy2⟩ := WX.out); clear hS; go_simp; first | done | exact rfl)); (case putta3 => (first | (simp only [Act.put, List.setIfInBounds_toArray, List.set_cons_zero, List.set_cons_succ]; first | done | exact rfl) | rfl)); (case' nextta3 => skip))
      (refine' GG.grow_lit (GG.ApS.still (by decide)) rfl ?wtta4 ?runta4 ?putta4 ?nextta4; (case wtta4 => rfl); (case runta4 => (intro w' hS; (obtain ⟨dn, s, hS⟩ := hS); (have z0 := keep hS.b Z0.out); (have z1 := keep hS.b Z1.out); (have zl := World.block_lt_of_cell? _ _ z0); (obtain ⟨wx, wy, wx2, wy2⟩ := WX.out); clear hS; go_simp; first | done | exact rfl)); (case putta4 => (first | (simp only [Act.put, List.setIfInBounds_toArray, List.set_cons_zero, List.set_cons_succ]; first | done | exact rfl) | rfl)); (case' nextta4 => skip))
      (refine' GG.grow_lit (GG.ApS.still (by decide)) rfl ?wtta5 ?runta5 ?putta5 ?nextta5; (case wtta5 => rfl); (case runta5 => (intro w' hS; (obtain ⟨dn, s, hS⟩ := hS); (have z0 := keep hS.b Z0.out); (have z1 := keep hS.b Z1.out); (have zl := World.block_lt_of_cell? _ _ z0); (obtain ⟨wx, wy, wx2, wy2⟩ := WX.out); clear hS; go_simp; first | done | exact rfl)); (case putta5 => (first | (simp only [Act.put, List.setIfInBounds_toArray, List.set_cons_zero, List.set_cons_succ]; first | done | exact rfl) | rfl)); (case' nextta5 => skip))
      (refine' GG.grow_lit (GG.ApS.still (by decide)) rfl ?wtta6 ?runta6 ?putta6 ?nextta6; (case wtta6 => rfl); (case runta6 => (intro w' hS; (obtain ⟨dn, s, hS⟩ := hS); (have z0 := keep hS.b Z0.out); (have z1 := keep hS.b Z1.out); (have zl := World.block_lt_of_cell? _ _ z0); (obtain ⟨wx, wy, wx2, wy2⟩ := WX.out); clear hS; go_simp; first | done | exact rfl)); (case putta6 => (first | (simp only [Act.put, List.setIfInBounds_toArray, List.set_cons_zero, List.set_cons_succ]; first | done | exact rfl) | rfl)); (case' nextta6 => skip))
      (refine' GG.grow_lit (GG.ApS.still (by decide)) rfl ?wtta7 ?runta7 ?putta7 ?nextta7; (case wtta7 => rfl); (case runta7 => (intro w' hS; (obtain ⟨dn, s, hS⟩ := hS); (have z0 := keep hS.b Z0.out); (have z1 := keep hS.b Z1.out); (have zl := World.block_lt_of_cell? _ _ z0); (obtain ⟨wx, wy, wx2, wy2⟩ := WX.out); clear hS; go_simp; first | done | exact rfl)); (case putta7 => (first | (simp only [Act.put, List.setIfInBounds_toArray, List.set_cons_zero, List.set_cons_succ]; first | done | exact rfl) | rfl)); (case' nextta7 => skip))
      (refine' GG.grow_lit (GG.ApS.still (by decide)) rfl ?wtta8 ?runta8 ?putta8 ?nextta8; (case wtta8 => rfl); (case runta8 => (intro w' hS; (obtain ⟨dn, s, hS⟩ := hS); (have z0 := keep hS.b Z0.out); (have z1 := keep hS.b Z1.out); (have zl := World.block_lt_of_cell? _ _ z0); (obtain ⟨wx, wy, wx2, wy2⟩ := WX.out); clear hS; go_simp; first | done | exact rfl)); (case putta8 => (first | (simp only [Act.put, List.setIfInBounds_toArray, List.set_cons_zero, List.set_cons_succ]; first | done | exact rfl) | rfl)); (case' nextta8 => skip))
      (refine' GG.grow_lit (GG.ApS.still (by decide)) rfl ?wtta9 ?runta9 ?putta9 ?nextta9; (case wtta9 => rfl); (case runta9 => (intro w' hS; (obtain ⟨dn, s, hS⟩ := hS); (have z0 := keep hS.b Z0.out); (have z1 := keep hS.b Z1.out); (have zl := World.block_lt_of_cell? _ _ z0); (obtain ⟨wx, wy, wx2, wy2⟩ := WX.out); clear hS; go_simp; first | done | exact rfl)); (case putta9 => (first | (simp only [Act.put, List.setIfInBounds_toArray, List.set_cons_zero, List.set_cons_succ]; first | done | exact rfl) | rfl)); (case' nextta9 => skip))
      (refine' GG.grow_lit (GG.ApS.still (by decide)) rfl ?wtta10 ?runta10 ?putta10 ?nextta10; (case wtta10 => rfl); (case runta10 => (intro w' hS; (obtain ⟨dn, s, hS⟩ := hS); (have z0 := keep hS.b Z0.out); (have z1 := keep hS.b Z1.out); (have zl := World.block_lt_of_cell? _ _ z0); (obtain ⟨wx, wy, wx2, wy2⟩ := WX.out); clear hS; go_simp; first | done | exact rfl)); (case putta10 => (first | (simp only [Act.put, List.setIfInBounds_toArray, List.set_cons_zero, List.set_cons_succ]; first | done | exact rfl) | rfl)); (case' nextta10 => skip))
      (refine' GG.grow_lit (GG.ApS.still (by decide)) rfl ?wtta11 ?runta11 ?putta11 ?nextta11; (case wtta11 => rfl); (case runta11 => (intro w' hS; (obtain ⟨dn, s, hS⟩ := hS); (have z0 := keep hS.b Z0.out); (have z1 := keep hS.b Z1.out); (have zl := World.block_lt_of_cell? _ _ z0); (obtain ⟨wx, wy, wx2, wy2⟩ := WX.out); clear hS; go_simp; first | done | exact rfl)); (case putta11 => (first | (simp only [Act.put, List.setIfInBounds_toArray, List.set_cons_zero, List.set_cons_succ]; first | done | exact rfl) | rfl)); (case' nextta11 => skip))
      (refine' GG.grow_lit (GG.ApS.still (by decide)) rfl ?wtta12 ?runta12 ?putta12 ?nextta12; (case wtta12 => rfl); (case runta12 => (intro w' hS; (obtain ⟨dn, s, hS⟩ := hS); (have z0 := keep hS.b Z0.out); (have z1 := keep hS.b Z1.out); (have zl := World.block_lt_of_cell? _ _ z0); (obtain ⟨wx, wy, wx2, wy2⟩ := WX.out); clear hS; go_simp; first | done | exact rfl)); (case putta12 => (first | (simp only [Act.put, List.setIfInBounds_toArray, List.set_cons_zero, List.set_cons_succ]; first | done | exact rfl) | rfl)); (case' nextta12 => skip))
      (refine' GG.grow_lit (GG.ApS.still (by decide)) rfl ?wtta13 ?runta13 ?putta13 ?nextta13; (case wtta13 => rfl); (case runta13 => (intro w' hS; (obtain ⟨dn, s, hS⟩ := hS); (have z0 := keep hS.b Z0.out); (have z1 := keep hS.b Z1.out); (have zl := World.block_lt_of_cell? _ _ z0); (obtain ⟨wx, wy, wx2, wy2⟩ := WX.out); clear hS; go_simp; first | done | exact rfl)); (case putta13 => (first | (simp only [Act.put, List.setIfInBounds_toArray, List.set_cons_zero, List.set_cons_succ]; first | done | exact rfl) | rfl)); (case' nextta13 => skip))
      (refine' GG.grow_lit (GG.ApS.still (by decide)) rfl ?wtta14 ?runta14 ?putta14 ?nextta14; (case wtta14 => rfl); (case runta14 => (intro w' hS; (obtain ⟨dn, s, hS⟩ := hS); (have z0 := keep hS.b Z0.out); (have z1 := keep hS.b Z1.out); (have zl := World.block_lt_of_cell? _ _ z0); (obtain ⟨wx, wy, wx2, wy2⟩ := WX.out); clear hS; go_simp; first | done | exact rfl)); (case putta14 => (first | (simp only [Act.put, List.setIfInBounds_toArray, List.set_cons_zero, List.set_cons_succ]; first | done | exact rfl) | rfl)); (case' nextta14 => skip))
      (refine' GG.grow_lit (GG.ApS.still (by decide)) rfl ?wtta15 ?runta15 ?putta15 ?nextta15; (case wtta15 => rfl); (case runta15 => (intro w' hS; (obtain ⟨dn, s, hS⟩ := hS); (have z0 := keep hS.b Z0.out); (have z1 := keep hS.b Z1.out); (have zl := World.block_lt_of_cell? _ _ z0); (obtain ⟨wx, wy, wx2, wy2⟩ := WX.out); clear hS; go_simp; first | done | exact rfl)); (case putta15 => (first | (simp only [Act.put, List.setIfInBounds_toArray, List.set_cons_zero, List.set_cons_succ]; first | done | exact rfl) | rfl)); (case' nextta15 => skip))
      (refine' GG.grow_lit (GG.ApS.still (by decide)) rfl ?wtta16 ?runta16 ?putta16 ?nextta16; (case wtta16 => rfl); (case runta16 => (intro w' hS; (obtain ⟨dn, s, hS⟩ := hS); (have z0 := keep hS.b Z0.out); (have z1 := keep hS.b Z1.out); (have zl := World.block_lt_of_cell? _ _ z0); (obtain ⟨wx, wy, wx2, wy2⟩ := WX.out); clear hS; go_simp; first | done | exact rfl)); (case putta16 => (first | (simp only [Act.put, List.setIfInBounds_toArray, List.set_cons_zero, List.set_cons_succ]; first | done | exact rfl) | rfl)); (case' nextta16 => skip))
      (refine' GG.grow_lit (GG.ApS.still (by decide)) rfl ?wtta17 ?runta17 ?putta17 ?nextta17; (case wtta17 => rfl); (case runta17 => (intro w' hS; (obtain ⟨dn, s, hS⟩ := hS); (have z0 := keep hS.b Z0.out); (have z1 := keep hS.b Z1.out); (have zl := World.block_lt_of_cell? _ _ z0); (obtain ⟨wx, wy, wx2, wy2⟩ := WX.out); clear hS; go_simp; first | done | exact rfl)); (case putta17 => (first | (simp only [Act.put, List.setIfInBounds_toArray, List.set_cons_zero, List.set_cons_succ]; first | done | exact rfl) | rfl)); (case' nextta17 => skip))
      (refine' GG.grow_any_op (p := GG.LitP #[.int .i64 (x + dx), .int .i64 (y + dy)]) (hp := GG.LitP.st #[.int .i64 (x + dx), .int .i64 (y + dy)]) rfl ?wtta18 ?runta18 ?putta18 ?nextta18; (case wtta18 => rfl); (case runta18 => (intro dn s w' hS hd H; (refine ⟨.slice (some ⟨w'.heap.size, 0, none⟩) 1 1, s, w'.alloc (.cells #[.int .i64 (x + dx), .int .i64 (y + dy)] 42), ?_, fun _ => ⟨w'.heap.size, rfl, Blk.new _ _ _ _ rfl⟩, (hS.step (by decide)).old PT.stab (below_alloc1 _), ⟨id, fun _ => below_alloc1 _⟩, (below_alloc1 _).size⟩; clear hS hd H; go_simp))); (case putta18 => (intro v; (simp only [Act.put, List.setIfInBounds_toArray, List.set_cons_zero, List.set_cons_succ]; first | done | exact rfl))); (case' nextta18 => intro v18))
      (refine' GG.grow_any_op (p := GG.ApT (fun v w => PT w3 ((movD dx dy (l.take k)) ++ [(x + dx, y + dy)]) v [] (.slice none 0 0) w)) (hp := GG.ApT.st (fun _ => PT.stab)) rfl ?wtta19 ?runta19 ?putta19 ?nextta19; (case wtta19 => rfl); (case runta19 => (intro dn s w' hS hd H; (obtain rfl : s = false := hS.here.symm.trans hd); (obtain ⟨g, e9, kg⟩ := (show GG.LitP #[.int .i64 (x + dx), .int .i64 (y + dy)] v18 false w' from H 18 (by decide)) rfl); (obtain ⟨q', n', c', w7, hr, hP, hz⟩ := (hS.r rfl).app kg HL1.out); subst e9; exact ⟨_, true, w7, GG.exec_append (.tmp 37) (.tmp 55) 22 rfl rfl rfl hr, ⟨rfl, ⟨_, _, _, rfl⟩, hP⟩, ⟨rfl, (fun h => by cases h), hP.b⟩, ⟨fun _ => rfl, fun h => by cases h⟩, hz⟩)); (case putta19 => (intro v; (simp only [Act.put, List.setIfInBounds_toArray, List.set_cons_zero, List.set_cons_succ]; first | done | exact rfl))); (case' nextta19 => intro v19))
      intro dn s w7 hS7 _ hk7
      obtain ⟨-, ⟨qz, nz, cz, rfl⟩, hP⟩ : GG.ApT (fun v w => PT w3 ((movD dx dy (l.take k)) ++ [(x + dx, y + dy)]) v [] (.slice none 0 0) w) v19 s w7 := hk7 19 (by decide)
      rw [← HM1.out] at hP
      have HP7 := Lib.hid hP
      clear hk7 hS7 hP SA0
      refine wpAny_ready (rs := [20]) (by kernel_rfl) (by simp) (AllReady.cons rfl (fun K hK => ?_) AllReady.nil)
      go_simp
      refine hK _ _ ?_
      clear hK K
      refine wpAny_done (by kernel_rfl) ?_ _
      go_wp2_with fail
      go_roundw
      case rel => exact ⟨k + 1, hlt, by go_num, HP7.out⟩
      case measure => simp [intOf]; omega
    · obtain rfl : k = l.length := by omega
      rw [List.take_length] at hm
      obtain ⟨mq, mc, rfl⟩ := hm.shapeN (movD_len dx dy l)
      have HPM := Lib.hid (prs_of_owns hm.r1 (by rw [movD_len]; have := HFW.out.1; omega))
      have HM := Lib.hid hm
      have HBW := Lib.hid (bOn6 HB.out hm.b)
      obtain ⟨r, hr⟩ : ∃ r, nearB (movD dx dy l) = r := ⟨_, rfl⟩
      have HR := Lib.hid hr
      clear hm hlt hk hr
      go_wp2_with fail
      refine (near_is HPM.out HR.out).mono ?_
      rintro e w4 ⟨rfl, rfl⟩
      cases r
      · go_wp2_with fail
        go_ret
        exact ⟨rfl, HBW.out⟩
      have HNR := Lib.hid ((nearB_iff _).1 HR.out).1
      have hel := zE_len E
      obtain ⟨eN, hEN⟩ : ∃ eN, (zE E).length = eN := ⟨_, rfl⟩
      have HEN : Hid (eN = E.length) := Lib.hid (by rw [← hEN, hel])
      rw [hEN] at HFW ⊢
      clear HR hel
      go_wp2_with fail
      go_loopw [10, 12] (fun v10 iv wz => TrRel w3 l E dx dy (.slice mq l.length mc) v10 iv wz) (fun _ iv _ => eN - (intOf iv).toNat)
      case atStart => exact ⟨0, Nat.zero_le _, rfl, HM.out⟩
      case round =>
        obtain ⟨k, hk, rfl, hm⟩ := hrel
        by_cases hlt : k < eN
        · have HM2 := Lib.hid hm
          have hki : (k : Int) < (eN : Int) := by omega
          have hkE : k < E.length := by rw [← HEN.out]; exact hlt
          obtain ⟨⟨a, b⟩, hab⟩ : ∃ e, (zE E)[k]? = some e := ⟨_, List.getElem?_eq_getElem (by rw [zE_len]; exact hkE)⟩
          obtain ⟨eb, eo, rfl, z0, z1, -⟩ := HE.out.atP hab
          have Z0 := Lib.hid z0
          have Z1 := Lib.hid z1
          have hae : ((((eL E k).1 : Nat) : Int), (((eL E k).2 : Nat) : Int)) = (a, b) := by
            rw [← zE_at E k (by rw [zE_len]; exact hkE)]
            exact (List.getElem?_eq_some_iff.1 hab).2
          injection hae with ha hb
          obtain ⟨R, hR⟩ : ∃ R : Int, ((k % l.length : Nat) : Int) = R := ⟨_, rfl⟩
          have HT : Hid (zE (turnF E l.length k) ++ [(R, R), (b, a)] = zE (turnF E l.length (k + 1))) := Lib.hid (by rw [zE_turnF, hR, ha, hb])
          have hl0 : 0 < l.length := by have := HOK.out.two; omega
          have hlm := Nat.mod_lt k hl0
          have d2 : (k : Int).tmod l.length = R := by rw [Int.tmod_eq_emod_of_nonneg (by omega), ← hR]; simp
          have d2' : (k : Int) % l.length = R := by rw [← hR]; simp
          have d4 : IntKind.i64.wrap R = R := IntWalk.i64_in _ (by have := HFW.out.1; omega)
          have WX : Hid ((IntKind.i64.wrap ((k : Int).tmod l.length) = R ∧ IntKind.i64.wrap ((k : Int) % l.length) = R ∧ (k : Int).tmod l.length = R ∧ (k : Int) % l.length = R ∧ IntKind.i64.wrap R = R) ∧ ((l.length : Int) == 0) = false ∧ decide ((l.length : Int) = 0) = false ∧ (l.length : Int) ≠ 0 ∧ l.length ≠ 0) := Lib.hid ⟨⟨by rw [d2, d4], by rw [d2', d4], d2, d2', d4⟩, by simp only [beq_eq_false_iff_ne]; omega, by simp only [decide_eq_false_iff_not]; omega, by omega, by omega⟩
          have HL1 : Hid ((zE (turnF E l.length k)).length ≤ 100000) := Lib.hid (by rw [zE_len, turnF_len]; have := HFW.out.2; omega)
          have SA0 : Hid (GG.ApS 22 (PT w3 (movD dx dy l) (.slice mq l.length mc) (zE (turnF E l.length k)) u10) w3 (fun _ => false) false wr.drew) := Lib.hid ⟨rfl, fun _ => PT.stab _ _ HM2.out (Below.refl _ _).drew, HM2.out.b.drew⟩
          have hwk : IntKind.i64.wrap ((k : Int) + 1) = (k : Int) + 1 := IntWalk.i64_in _ (by have := HFW.out.2; omega)
          clear z0 z1 hab hm ha hb hR hlm hl0 d2 d2' d4 hkE
          go_wp2_with fail
          refine' GG.wp_thenL _ 23 (GG.ApS 22 (PT w3 (movD dx dy l) (.slice mq l.length mc) (zE (turnF E l.length k)) u10) w3) [[], [], [], [2], [1, 2, 3], [], [], [6], [5, 6, 7], [1, 2, 3, 4, 5, 6, 7, 8], [], [], [10, 11], [10, 11, 12], [10, 11, 12, 13], [], [], [15, 16], [15, 16, 17], [15, 16, 17, 18], [10, 11, 12, 13, 14, 15, 16, 17, 18, 19], [1, 2, 3, 4, 5, 6, 7, 8, 9, 10, 11, 12, 13, 14, 15, 16, 17, 18, 19, 20], [0, 1, 2, 3, 4, 5, 6, 7, 8, 9, 10, 11, 12, 13, 14, 15, 16, 17, 18, 19, 20, 21]] (GG.Fact.lit (Rl := GG.RlA) _ :: GG.Fact.lit (Rl := GG.RlA) _ :: GG.Fact.lit (Rl := GG.RlA) _ :: GG.Fact.lit (Rl := GG.RlA) _ :: GG.Fact.lit (Rl := GG.RlA) _ :: GG.Fact.lit (Rl := GG.RlA) _ :: GG.Fact.lit (Rl := GG.RlA) _ :: GG.Fact.lit (Rl := GG.RlA) _ :: GG.Fact.lit (Rl := GG.RlA) _ :: GG.Fact.lit (Rl := GG.RlA) _ :: GG.Fact.lit (Rl := GG.RlA) _ :: GG.Fact.lit (Rl := GG.RlA) _ :: GG.Fact.lit (Rl := GG.RlA) _ :: GG.Fact.lit (Rl := GG.RlA) _ :: GG.Fact.lit (Rl := GG.RlA) _ :: GG.Fact.lit (Rl := GG.RlA) _ :: GG.Fact.lit (Rl := GG.RlA) _ :: GG.Fact.lit (Rl := GG.RlA) _ :: GG.Fact.lit (Rl := GG.RlA) _ :: GG.Fact.lit (Rl := GG.RlA) _ :: GG.Fact.lit (Rl := GG.RlA) _ :: GG.Fact.prop (Rl := GG.RlA) _ _ :: GG.Fact.prop (Rl := GG.RlA) _ _ :: []) (by kernel_rfl) rfl (by kernel_rfl) (false) (SA0.out) ?seqtb
          case' seqtb => skip
          (refine' GG.grow_lit (GG.ApS.still (by decide)) rfl ?wttb0 ?runtb0 ?puttb0 ?nexttb0; (case wttb0 => rfl); (case runtb0 => (intro w' hS; (obtain ⟨dn, s, hS⟩ := hS); (have z0 := keep hS.b Z0.out); (have z1 := keep hS.b Z1.out); (have zl := World.block_lt_of_cell? _ _ z0); (obtain ⟨⟨x1, x2, x3, x4, x5⟩, x6, x7, x8, x9⟩ := WX.out); clear hS; go_simp; first | done | exact rfl)); (case puttb0 => (first | (simp only [Act.put, List.setIfInBounds_toArray, List.set_cons_zero, List.set_cons_succ]; first | done | exact rfl) | rfl)); (case' nexttb0 => skip))
          (refine' GG.grow_lit (GG.ApS.still (by decide)) rfl ?wttb1 ?runtb1 ?puttb1 ?nexttb1; (case wttb1 => rfl); (case runtb1 => (intro w' hS; (obtain ⟨dn, s, hS⟩ := hS); (have z0 := keep hS.b Z0.out); (have z1 := keep hS.b Z1.out); (have zl := World.block_lt_of_cell? _ _ z0); (obtain ⟨⟨x1, x2, x3, x4, x5⟩, x6, x7, x8, x9⟩ := WX.out); clear hS; go_simp; first | done | exact rfl)); (case puttb1 => (first | (simp only [Act.put, List.setIfInBounds_toArray, List.set_cons_zero, List.set_cons_succ]; first | done | exact rfl) | rfl)); (case' nexttb1 => skip))
          (refine' GG.grow_lit (GG.ApS.still (by decide)) rfl ?wttb2 ?runtb2 ?puttb2 ?nexttb2; (case wttb2 => rfl); (case runtb2 => (intro w' hS; (obtain ⟨dn, s, hS⟩ := hS); (have z0 := keep hS.b Z0.out); (have z1 := keep hS.b Z1.out); (have zl := World.block_lt_of_cell? _ _ z0); (obtain ⟨⟨x1, x2, x3, x4, x5⟩, x6, x7, x8, x9⟩ := WX.out); clear hS; go_simp; first | done | exact rfl)); (case puttb2 => (first | (simp only [Act.put, List.setIfInBounds_toArray, List.set_cons_zero, List.set_cons_succ]; first | done | exact rfl) | rfl)); (case' nexttb2 => skip))
          (refine' GG.grow_lit (GG.ApS.still (by decide)) rfl ?wttb3 ?runtb3 ?puttb3 ?nexttb3; (case wttb3 => rfl); (case runtb3 => (intro w' hS; (obtain ⟨dn, s, hS⟩ := hS); (have z0 := keep hS.b Z0.out); (have z1 := keep hS.b Z1.out); (have zl := World.block_lt_of_cell? _ _ z0); (obtain ⟨⟨x1, x2, x3, x4, x5⟩, x6, x7, x8, x9⟩ := WX.out); clear hS; go_simp; first | done | exact rfl)); (case puttb3 => (first | (simp only [Act.put, List.setIfInBounds_toArray, List.set_cons_zero, List.set_cons_succ]; first | done | exact rfl) | rfl)); (case' nexttb3 => skip))
          (refine' GG.grow_lit (GG.ApS.still (by decide)) rfl ?wttb4 ?runtb4 ?puttb4 ?nexttb4; (case wttb4 => rfl); (case runtb4 => (intro w' hS; (obtain ⟨dn, s, hS⟩ := hS); (have z0 := keep hS.b Z0.out); (have z1 := keep hS.b Z1.out); (have zl := World.block_lt_of_cell? _ _ z0); (obtain ⟨⟨x1, x2, x3, x4, x5⟩, x6, x7, x8, x9⟩ := WX.out); clear hS; go_simp; first | done | exact rfl)); (case puttb4 => (first | (simp only [Act.put, List.setIfInBounds_toArray, List.set_cons_zero, List.set_cons_succ]; first | done | exact rfl) | rfl)); (case' nexttb4 => skip))
          (refine' GG.grow_lit (GG.ApS.still (by decide)) rfl ?wttb5 ?runtb5 ?puttb5 ?nexttb5; (case wttb5 => rfl); (case runtb5 => (intro w' hS; (obtain ⟨dn, s, hS⟩ := hS); (have z0 := keep hS.b Z0.out); (have z1 := keep hS.b Z1.out); (have zl := World.block_lt_of_cell? _ _ z0); (obtain ⟨⟨x1, x2, x3, x4, x5⟩, x6, x7, x8, x9⟩ := WX.out); clear hS; go_simp; first | done | exact rfl)); (case puttb5 => (first | (simp only [Act.put, List.setIfInBounds_toArray, List.set_cons_zero, List.set_cons_succ]; first | done | exact rfl) | rfl)); (case' nexttb5 => skip))
          (refine' GG.grow_lit (GG.ApS.still (by decide)) rfl ?wttb6 ?runtb6 ?puttb6 ?nexttb6; (case wttb6 => rfl); (case runtb6 => (intro w' hS; (obtain ⟨dn, s, hS⟩ := hS); (have z0 := keep hS.b Z0.out); (have z1 := keep hS.b Z1.out); (have zl := World.block_lt_of_cell? _ _ z0); (obtain ⟨⟨x1, x2, x3, x4, x5⟩, x6, x7, x8, x9⟩ := WX.out); clear hS; go_simp; first | done | exact rfl)); (case puttb6 => (first | (simp only [Act.put, List.setIfInBounds_toArray, List.set_cons_zero, List.set_cons_succ]; first | done | exact rfl) | rfl)); (case' nexttb6 => skip))
          (refine' GG.grow_lit (GG.ApS.still (by decide)) rfl ?wttb7 ?runtb7 ?puttb7 ?nexttb7; (case wttb7 => rfl); (case runtb7 => (intro w' hS; (obtain ⟨dn, s, hS⟩ := hS); (have z0 := keep hS.b Z0.out); (have z1 := keep hS.b Z1.out); (have zl := World.block_lt_of_cell? _ _ z0); (obtain ⟨⟨x1, x2, x3, x4, x5⟩, x6, x7, x8, x9⟩ := WX.out); clear hS; go_simp; first | done | exact rfl)); (case puttb7 => (first | (simp only [Act.put, List.setIfInBounds_toArray, List.set_cons_zero, List.set_cons_succ]; first | done | exact rfl) | rfl)); (case' nexttb7 => skip))
          (refine' GG.grow_lit (GG.ApS.still (by decide)) rfl ?wttb8 ?runtb8 ?puttb8 ?nexttb8; (case wttb8 => rfl); (case runtb8 => (intro w' hS; (obtain ⟨dn, s, hS⟩ := hS); (have z0 := keep hS.b Z0.out); (have z1 := keep hS.b Z1.out); (have zl := World.block_lt_of_cell? _ _ z0); (obtain ⟨⟨x1, x2, x3, x4, x5⟩, x6, x7, x8, x9⟩ := WX.out); clear hS; go_simp; first | done | exact rfl)); (case puttb8 => (first | (simp only [Act.put, List.setIfInBounds_toArray, List.set_cons_zero, List.set_cons_succ]; first | done | exact rfl) | rfl)); (case' nexttb8 => skip))
          (refine' GG.grow_lit (GG.ApS.still (by decide)) rfl ?wttb9 ?runtb9 ?puttb9 ?nexttb9; (case wttb9 => rfl); (case runtb9 => (intro w' hS; (obtain ⟨dn, s, hS⟩ := hS); (have z0 := keep hS.b Z0.out); (have z1 := keep hS.b Z1.out); (have zl := World.block_lt_of_cell? _ _ z0); (obtain ⟨⟨x1, x2, x3, x4, x5⟩, x6, x7, x8, x9⟩ := WX.out); clear hS; go_simp; first | done | exact rfl)); (case puttb9 => (first | (simp only [Act.put, List.setIfInBounds_toArray, List.set_cons_zero, List.set_cons_succ]; first | done | exact rfl) | rfl)); (case' nexttb9 => skip))
          (refine' GG.grow_lit (GG.ApS.still (by decide)) rfl ?wttb10 ?runtb10 ?puttb10 ?nexttb10; (case wttb10 => rfl); (case runtb10 => (intro w' hS; (obtain ⟨dn, s, hS⟩ := hS); (have z0 := keep hS.b Z0.out); (have z1 := keep hS.b Z1.out); (have zl := World.block_lt_of_cell? _ _ z0); (obtain ⟨⟨x1, x2, x3, x4, x5⟩, x6, x7, x8, x9⟩ := WX.out); clear hS; go_simp; first | done | exact rfl)); (case puttb10 => (first | (simp only [Act.put, List.setIfInBounds_toArray, List.set_cons_zero, List.set_cons_succ]; first | done | exact rfl) | rfl)); (case' nexttb10 => skip))
          (refine' GG.grow_lit (GG.ApS.still (by decide)) rfl ?wttb11 ?runtb11 ?puttb11 ?nexttb11; (case wttb11 => rfl); (case runtb11 => (intro w' hS; (obtain ⟨dn, s, hS⟩ := hS); (have z0 := keep hS.b Z0.out); (have z1 := keep hS.b Z1.out); (have zl := World.block_lt_of_cell? _ _ z0); (obtain ⟨⟨x1, x2, x3, x4, x5⟩, x6, x7, x8, x9⟩ := WX.out); clear hS; go_simp; first | done | exact rfl)); (case puttb11 => (first | (simp only [Act.put, List.setIfInBounds_toArray, List.set_cons_zero, List.set_cons_succ]; first | done | exact rfl) | rfl)); (case' nexttb11 => skip))
          (refine' GG.grow_lit (GG.ApS.still (by decide)) rfl ?wttb12 ?runtb12 ?puttb12 ?nexttb12; (case wttb12 => rfl); (case runtb12 => (intro w' hS; (obtain ⟨dn, s, hS⟩ := hS); (have z0 := keep hS.b Z0.out); (have z1 := keep hS.b Z1.out); (have zl := World.block_lt_of_cell? _ _ z0); (obtain ⟨⟨x1, x2, x3, x4, x5⟩, x6, x7, x8, x9⟩ := WX.out); clear hS; go_simp; first | done | exact rfl)); (case puttb12 => (first | (simp only [Act.put, List.setIfInBounds_toArray, List.set_cons_zero, List.set_cons_succ]; first | done | exact rfl) | rfl)); (case' nexttb12 => skip))
          (refine' GG.grow_lit (GG.ApS.still (by decide)) rfl ?wttb13 ?runtb13 ?puttb13 ?nexttb13; (case wttb13 => rfl); (case runtb13 => (intro w' hS; (obtain ⟨dn, s, hS⟩ := hS); (have z0 := keep hS.b Z0.out); (have z1 := keep hS.b Z1.out); (have zl := World.block_lt_of_cell? _ _ z0); (obtain ⟨⟨x1, x2, x3, x4, x5⟩, x6, x7, x8, x9⟩ := WX.out); clear hS; go_simp; first | done | exact rfl)); (case puttb13 => (first | (simp only [Act.put, List.setIfInBounds_toArray, List.set_cons_zero, List.set_cons_succ]; first | done | exact rfl) | rfl)); (case' nexttb13 => skip))
          (refine' GG.grow_lit (GG.ApS.still (by decide)) rfl ?wttb14 ?runtb14 ?puttb14 ?nexttb14; (case wttb14 => rfl); (case runtb14 => (intro w' hS; (obtain ⟨dn, s, hS⟩ := hS); (have z0 := keep hS.b Z0.out); (have z1 := keep hS.b Z1.out); (have zl := World.block_lt_of_cell? _ _ z0); (obtain ⟨⟨x1, x2, x3, x4, x5⟩, x6, x7, x8, x9⟩ := WX.out); clear hS; go_simp; first | done | exact rfl)); (case puttb14 => (first | (simp only [Act.put, List.setIfInBounds_toArray, List.set_cons_zero, List.set_cons_succ]; first | done | exact rfl) | rfl)); (case' nexttb14 => skip))
          (refine' GG.grow_lit (GG.ApS.still (by decide)) rfl ?wttb15 ?runtb15 ?puttb15 ?nexttb15; (case wttb15 => rfl); (case runtb15 => (intro w' hS; (obtain ⟨dn, s, hS⟩ := hS); (have z0 := keep hS.b Z0.out); (have z1 := keep hS.b Z1.out); (have zl := World.block_lt_of_cell? _ _ z0); (obtain ⟨⟨x1, x2, x3, x4, x5⟩, x6, x7, x8, x9⟩ := WX.out); clear hS; go_simp; first | done | exact rfl)); (case puttb15 => (first | (simp only [Act.put, List.setIfInBounds_toArray, List.set_cons_zero, List.set_cons_succ]; first | done | exact rfl) | rfl)); (case' nexttb15 => skip))
          (refine' GG.grow_lit (GG.ApS.still (by decide)) rfl ?wttb16 ?runtb16 ?puttb16 ?nexttb16; (case wttb16 => rfl); (case runtb16 => (intro w' hS; (obtain ⟨dn, s, hS⟩ := hS); (have z0 := keep hS.b Z0.out); (have z1 := keep hS.b Z1.out); (have zl := World.block_lt_of_cell? _ _ z0); (obtain ⟨⟨x1, x2, x3, x4, x5⟩, x6, x7, x8, x9⟩ := WX.out); clear hS; go_simp; first | done | exact rfl)); (case puttb16 => (first | (simp only [Act.put, List.setIfInBounds_toArray, List.set_cons_zero, List.set_cons_succ]; first | done | exact rfl) | rfl)); (case' nexttb16 => skip))
          (refine' GG.grow_lit (GG.ApS.still (by decide)) rfl ?wttb17 ?runtb17 ?puttb17 ?nexttb17; (case wttb17 => rfl); (case runtb17 => (intro w' hS; (obtain ⟨dn, s, hS⟩ := hS); (have z0 := keep hS.b Z0.out); (have z1 := keep hS.b Z1.out); (have zl := World.block_lt_of_cell? _ _ z0); (obtain ⟨⟨x1, x2, x3, x4, x5⟩, x6, x7, x8, x9⟩ := WX.out); clear hS; go_simp; first | done | exact rfl)); (case puttb17 => (first | (simp only [Act.put, List.setIfInBounds_toArray, List.set_cons_zero, List.set_cons_succ]; first | done | exact rfl) | rfl)); (case' nexttb17 => skip))
          (refine' GG.grow_lit (GG.ApS.still (by decide)) rfl ?wttb18 ?runtb18 ?puttb18 ?nexttb18; (case wttb18 => rfl); (case runtb18 => (intro w' hS; (obtain ⟨dn, s, hS⟩ := hS); (have z0 := keep hS.b Z0.out); (have z1 := keep hS.b Z1.out); (have zl := World.block_lt_of_cell? _ _ z0); (obtain ⟨⟨x1, x2, x3, x4, x5⟩, x6, x7, x8, x9⟩ := WX.out); clear hS; go_simp; first | done | exact rfl)); (case puttb18 => (first | (simp only [Act.put, List.setIfInBounds_toArray, List.set_cons_zero, List.set_cons_succ]; first | done | exact rfl) | rfl)); (case' nexttb18 => skip))
          (refine' GG.grow_lit (GG.ApS.still (by decide)) rfl ?wttb19 ?runtb19 ?puttb19 ?nexttb19; (case wttb19 => rfl); (case runtb19 => (intro w' hS; (obtain ⟨dn, s, hS⟩ := hS); (have z0 := keep hS.b Z0.out); (have z1 := keep hS.b Z1.out); (have zl := World.block_lt_of_cell? _ _ z0); (obtain ⟨⟨x1, x2, x3, x4, x5⟩, x6, x7, x8, x9⟩ := WX.out); clear hS; go_simp; first | done | exact rfl)); (case puttb19 => (first | (simp only [Act.put, List.setIfInBounds_toArray, List.set_cons_zero, List.set_cons_succ]; first | done | exact rfl) | rfl)); (case' nexttb19 => skip))
          (refine' GG.grow_lit (GG.ApS.still (by decide)) rfl ?wttb20 ?runtb20 ?puttb20 ?nexttb20; (case wttb20 => rfl); (case runtb20 => (intro w' hS; (obtain ⟨dn, s, hS⟩ := hS); (have z0 := keep hS.b Z0.out); (have z1 := keep hS.b Z1.out); (have zl := World.block_lt_of_cell? _ _ z0); (obtain ⟨⟨x1, x2, x3, x4, x5⟩, x6, x7, x8, x9⟩ := WX.out); clear hS; go_simp; first | done | exact rfl)); (case puttb20 => (first | (simp only [Act.put, List.setIfInBounds_toArray, List.set_cons_zero, List.set_cons_succ]; first | done | exact rfl) | rfl)); (case' nexttb20 => skip))
          (refine' GG.grow_any_op (p := GG.LitP2 #[.int .i64 R, .int .i64 R, .int .i64 b, .int .i64 a]) (hp := GG.LitP2.st #[.int .i64 R, .int .i64 R, .int .i64 b, .int .i64 a]) rfl ?wttb21 ?runtb21 ?puttb21 ?nexttb21; (case wttb21 => rfl); (case runtb21 => (intro dn s w' hS hd H; (refine ⟨.slice (some ⟨w'.heap.size, 0, none⟩) 2 2, s, w'.alloc (.cells #[.int .i64 R, .int .i64 R, .int .i64 b, .int .i64 a] 42), ?_, fun _ => ⟨w'.heap.size, rfl, Blk.new _ _ _ _ rfl⟩, (hS.step (by decide)).old PT.stab (below_alloc1 _), ⟨id, fun _ => below_alloc1 _⟩, (below_alloc1 _).size⟩; clear hS hd H; go_simp))); (case puttb21 => (intro v; (simp only [Act.put, List.setIfInBounds_toArray, List.set_cons_zero, List.set_cons_succ]; first | done | exact rfl))); (case' nexttb21 => intro v21))
          (refine' GG.grow_any_op (p := GG.ApT (fun v w => PT w3 (movD dx dy l) (.slice mq l.length mc) ((zE (turnF E l.length k)) ++ [(R, R), (b, a)]) v w)) (hp := GG.ApT.st (fun _ => PT.stab)) rfl ?wttb22 ?runtb22 ?puttb22 ?nexttb22; (case wttb22 => rfl); (case runtb22 => (intro dn s w' hS hd H; (obtain rfl : s = false := hS.here.symm.trans hd); (obtain ⟨g, e9, kg⟩ := (show GG.LitP2 #[.int .i64 R, .int .i64 R, .int .i64 b, .int .i64 a] v21 false w' from H 21 (by decide)) rfl); (obtain ⟨q', n', c', w7, hr, hP, hz⟩ := (hS.r rfl).symm.app2 kg HL1.out); subst e9; exact ⟨_, true, w7, GG.exec_append (.tmp 66) (.tmp 87) 22 rfl rfl rfl hr, ⟨rfl, ⟨_, _, _, rfl⟩, hP.symm⟩, ⟨rfl, (fun h => by cases h), hP.b⟩, ⟨fun _ => rfl, fun h => by cases h⟩, hz⟩)); (case puttb22 => (intro v; (simp only [Act.put, List.setIfInBounds_toArray, List.set_cons_zero, List.set_cons_succ]; first | done | exact rfl))); (case' nexttb22 => intro v22))
          intro dn s w7 hS7 _ hk7
          obtain ⟨-, ⟨qz, nz, cz, rfl⟩, hP⟩ : GG.ApT (fun v w => PT w3 (movD dx dy l) (.slice mq l.length mc) ((zE (turnF E l.length k)) ++ [(R, R), (b, a)]) v w) v22 s w7 := hk7 22 (by decide)
          rw [HT.out] at hP
          have HP7 := Lib.hid hP
          clear hk7 hS7 hP SA0
          refine wpAny_ready (rs := [23]) (by kernel_rfl) (by simp) (AllReady.cons rfl (fun K hK => ?_) AllReady.nil)
          go_simp
          refine hK _ _ ?_
          clear hK K
          refine wpAny_done (by kernel_rfl) ?_ _
          go_wp2_with fail
          go_roundw
          case rel => exact ⟨k + 1, by rw [← HEN.out]; exact hlt, by go_num, HP7.out⟩
          case measure => simp [intOf]; omega
        · obtain rfl : k = eN := by have := HEN.out; omega
          have hEI : EdgIn l.length E := fun i hi => by
            have h1 := HOK.out.e (((eL E i).1 : Int), ((eL E i).2 : Int)) (by rw [← zE_at E i (by rw [zE_len]; exact hi)]; exact List.getElem_mem _)
            obtain ⟨⟨-, h2⟩, -, h3⟩ := h1
            simp only at h2 h3
            exact ⟨by omega, by omega⟩
          have hOK2 : OkC (movD dx dy l) (zE (turnF E l.length E.length)) := ⟨by rw [movD_len]; exact HOK.out.two, by rw [movD_len]; exact HOK.out.most, by rw [zE_len, turnF_len]; have := HFW.out.2; have := HEN.out; omega, HNR.out, by rw [movD_len]; exact zE_pair (turnF_in hEI (by have := HOK.out.two; omega) _ (Nat.le_refl _))⟩
          rw [HEN.out] at hm
          have HOK2 := Lib.hid hOK2
          have HPN := Lib.hid (prs_of_owns hm.r1 (by rw [movD_len]; have := HFW.out.1; omega))
          have HEN2 := Lib.hid (prs_of_owns hm.r2 (by rw [zE_len, turnF_len]; have := HFW.out.2; have := HEN.out; omega))
          have HP8 := Lib.hid (HP.out.below hm.b)
          have HE8 := Lib.hid (HE.out.below hm.b)
          have HBZ := Lib.hid (bOn6 HB.out hm.b)
          clear hm hlt hk hEI hOK2
          rw [hEN] at HE8
          go_wp2_with fail
          clear HM HBW HNR HPM
          refine (hall _ _ _ _ _ HP8.out HE8.out HOK.out).mono ?_
          rintro e w5 ⟨av, L, rfl, hS, hQ, hb⟩
          have HS := Lib.hid hS
          have HQ := Lib.hid hQ
          obtain ⟨ab, ao, ac, e9, -⟩ := hS
          subst e9
          rw [hQ.len] at HS ⊢
          clear hQ HP8 HE8
          have HBZ_ := Lib.hid (bOn6 HBZ.out hb)
          have HPN_ := Lib.hid (HPN.out.below hb)
          have HEN2_ := Lib.hid (HEN2.out.below hb)
          clear HBZ HPN HEN2
          have HBZ := HBZ_
          have HPN := HPN_
          have HEN2 := HEN2_
          clear HBZ_ HPN_ HEN2_
          clear hb
          go_wp2_with fail
          refine (hall _ _ _ _ _ HPN.out HEN2.out HOK2.out).mono ?_
          rintro e w6 ⟨bv, M, rfl, hS, hQ2, hb⟩
          obtain rfl := splits_moved HQ.out hQ2
          have HS2 := Lib.hid hS
          obtain ⟨bb, bo, bc, e9, -⟩ := hS
          subst e9
          rw [HQ.out.len] at HS2 ⊢
          clear hQ2
          have HBZ_ := Lib.hid (bOn6 HBZ.out hb)
          have HPN_ := Lib.hid (HPN.out.below hb)
          have HEN2_ := Lib.hid (HEN2.out.below hb)
          have HS_ := Lib.hid (HS.out.below hb)
          clear HBZ HPN HEN2 HS
          have HBZ := HBZ_
          have HPN := HPN_
          have HEN2 := HEN2_
          have HS := HS_
          clear HBZ_ HPN_ HEN2_ HS_
          clear hb
          go_wp2_with fail
          go_loopw [17] (fun iv wz => MvCmp w6 iv wz) (fun iv _ => 12 - (intOf iv).toNat)
          case atStart => exact ⟨0, Nat.zero_le _, rfl, Below.refl _ _⟩
          case round =>
            obtain ⟨i, hi, rfl, hb⟩ := hrel
            have HBZ_ := Lib.hid (bOn6 HBZ.out hb)
            have HPN_ := Lib.hid (HPN.out.below hb)
            have HEN2_ := Lib.hid (HEN2.out.below hb)
            have HS_ := Lib.hid (HS.out.below hb)
            have HS2_ := Lib.hid (HS2.out.below hb)
            clear HBZ HPN HEN2 HS HS2
            have HBZ := HBZ_
            have HPN := HPN_
            have HEN2 := HEN2_
            have HS := HS_
            have HS2 := HS2_
            clear HBZ_ HPN_ HEN2_ HS_ HS2_
            have HBX := Lib.hid hb
            clear hb
            by_cases hlt : i < 12
            case neg =>
              obtain rfl : i = 12 := by omega
              clear hlt hi
              go_wp2_with fail
              go_ret
              exact ⟨rfl, HBZ.out⟩
            have hki : (i : Int) < 12 := by omega
            obtain ⟨x, hx⟩ : ∃ x, L[i]? = some x := ⟨_, List.getElem?_eq_getElem (by rw [HQ.out.len]; exact hlt)⟩
            obtain ⟨xv, x0, xb, x1, xl⟩ := HS.out.at hx
            obtain ⟨yv, y0, yb, y1, yl⟩ := HS2.out.at hx
            obtain ⟨xq, xc, rfl⟩ := xb.shape
            obtain ⟨yq, yc, rfl⟩ := yb.shape
            have X0 := Lib.hid x0
            have X1 := Lib.hid x1
            have Y0 := Lib.hid y0
            have Y1 := Lib.hid y1
            have XB := Lib.hid xb
            have YB := Lib.hid yb
            have HK : Hid (i < 12 ∧ (i : Int) < 12) := Lib.hid ⟨hlt, hki⟩
            have hwi : IntKind.i64.wrap ((i : Int) + 1) = (i : Int) + 1 := IntWalk.i64_in _ (by omega)
            have DS0 : Hid (GG.BelL wr (fun _ => false) () wr.drew) := Lib.hid ⟨(Below.refl _ _).drew⟩
            clear x0 xb x1 xl y0 yb y1 yl hx
            go_wp2_with fail
            refine' GG.wp_growL _ (GG.BelL wr) [[], [], [0, 1], [0, 1, 2], [0, 1, 2, 3], [], [], [5, 6], [5, 6, 7], [5, 6, 7, 8], [0, 1, 2, 3, 4, 5, 6, 7, 8, 9], [0, 1, 2, 3, 4, 5, 6, 7, 8, 9, 10], [0, 1, 2, 3, 4, 5, 6, 7, 8, 9, 10, 11], [0, 1, 2, 3, 4, 5, 6, 7, 8, 9, 10, 11, 12], [0, 1, 2, 3, 4, 5, 6, 7, 8, 9, 10, 11, 12], [0, 1, 2, 3, 4, 5, 6, 7, 8, 9, 10, 11, 12, 13, 14], [0, 1, 2, 3, 4, 5, 6, 7, 8, 9, 10, 11, 12, 13, 14, 15], [0, 1, 2, 3, 4, 5, 6, 7, 8, 9, 10, 11, 12, 13, 14, 15, 16], [0, 1, 2, 3, 4, 5, 6, 7, 8, 9, 10, 11, 12], [0, 1, 2, 3, 4, 5, 6, 7, 8, 9, 10, 11, 12], [0, 1, 2, 3, 4, 5, 6, 7, 8, 9, 10, 11, 12, 18, 19], [0, 1, 2, 3, 4, 5, 6, 7, 8, 9, 10, 11, 12, 18, 19, 20], [0, 1, 2, 3, 4, 5, 6, 7, 8, 9, 10, 11, 12, 18, 19, 20, 21], [0, 1, 2, 3, 4, 5, 6, 7, 8, 9, 10, 11, 12, 13, 14, 15, 16, 17, 18, 19, 20, 21, 22], [0, 1, 2, 3, 4, 5, 6, 7, 8, 9, 10, 11, 12, 13, 14, 15, 16, 17, 18, 19, 20, 21, 22, 23]] (GG.Fact.lit (Rl := GG.RlL) _ :: GG.Fact.lit (Rl := GG.RlL) _ :: GG.Fact.lit (Rl := GG.RlL) _ :: GG.Fact.lit (Rl := GG.RlL) _ :: GG.Fact.lit (Rl := GG.RlL) _ :: GG.Fact.lit (Rl := GG.RlL) _ :: GG.Fact.lit (Rl := GG.RlL) _ :: GG.Fact.lit (Rl := GG.RlL) _ :: GG.Fact.lit (Rl := GG.RlL) _ :: GG.Fact.lit (Rl := GG.RlL) _ :: GG.Fact.lit (Rl := GG.RlL) _ :: GG.Fact.lit (Rl := GG.RlL) _ :: GG.Fact.lit (Rl := GG.RlL) _ :: GG.Fact.lit (Rl := GG.RlL) _ :: GG.Fact.lit (Rl := GG.RlL) _ :: GG.Fact.lit (Rl := GG.RlL) _ :: GG.Fact.lit (Rl := GG.RlL) _ :: GG.Fact.lit (Rl := GG.RlL) _ :: GG.Fact.lit (Rl := GG.RlL) _ :: GG.Fact.lit (Rl := GG.RlL) _ :: GG.Fact.lit (Rl := GG.RlL) _ :: GG.Fact.lit (Rl := GG.RlL) _ :: GG.Fact.lit (Rl := GG.RlL) _ :: GG.Fact.lit (Rl := GG.RlL) _ :: GG.Fact.lit (Rl := GG.RlL) _ :: []) (by kernel_rfl) rfl (by kernel_rfl) (()) (DS0.out) ?sequc
            case' sequc => skip
            (refine' GG.grow_lit (GG.BelL.still) rfl ?wtuc0 ?runuc0 ?putuc0 ?nextuc0; (case wtuc0 => rfl); (case runuc0 => (intro w' hS; (obtain ⟨dn, s, hS⟩ := hS); (have x0 := keep hS.b X0.out); (have xl := World.block_lt_of_cell? _ _ x0); (have x1 := keep hS.b X1.out); (have y0 := keep hS.b Y0.out); (have yl := World.block_lt_of_cell? _ _ y0); (have y1 := keep hS.b Y1.out); (obtain ⟨hlt, hki⟩ := HK.out); clear hS; go_simp; first | done | exact rfl)); (case putuc0 => (first | (simp only [Act.put, List.setIfInBounds_toArray, List.set_cons_zero, List.set_cons_succ]; first | done | exact rfl) | rfl)); (case' nextuc0 => skip))
            (refine' GG.grow_lit (GG.BelL.still) rfl ?wtuc1 ?runuc1 ?putuc1 ?nextuc1; (case wtuc1 => rfl); (case runuc1 => (intro w' hS; (obtain ⟨dn, s, hS⟩ := hS); (have x0 := keep hS.b X0.out); (have xl := World.block_lt_of_cell? _ _ x0); (have x1 := keep hS.b X1.out); (have y0 := keep hS.b Y0.out); (have yl := World.block_lt_of_cell? _ _ y0); (have y1 := keep hS.b Y1.out); (obtain ⟨hlt, hki⟩ := HK.out); clear hS; go_simp; first | done | exact rfl)); (case putuc1 => (first | (simp only [Act.put, List.setIfInBounds_toArray, List.set_cons_zero, List.set_cons_succ]; first | done | exact rfl) | rfl)); (case' nextuc1 => skip))
            (refine' GG.grow_lit (GG.BelL.still) rfl ?wtuc2 ?runuc2 ?putuc2 ?nextuc2; (case wtuc2 => rfl); (case runuc2 => (intro w' hS; (obtain ⟨dn, s, hS⟩ := hS); (have x0 := keep hS.b X0.out); (have xl := World.block_lt_of_cell? _ _ x0); (have x1 := keep hS.b X1.out); (have y0 := keep hS.b Y0.out); (have yl := World.block_lt_of_cell? _ _ y0); (have y1 := keep hS.b Y1.out); (obtain ⟨hlt, hki⟩ := HK.out); clear hS; go_simp; first | done | exact rfl)); (case putuc2 => (first | (simp only [Act.put, List.setIfInBounds_toArray, List.set_cons_zero, List.set_cons_succ]; first | done | exact rfl) | rfl)); (case' nextuc2 => skip))
            (refine' GG.grow_lit (GG.BelL.still) rfl ?wtuc3 ?runuc3 ?putuc3 ?nextuc3; (case wtuc3 => rfl); (case runuc3 => (intro w' hS; (obtain ⟨dn, s, hS⟩ := hS); (have x0 := keep hS.b X0.out); (have xl := World.block_lt_of_cell? _ _ x0); (have x1 := keep hS.b X1.out); (have y0 := keep hS.b Y0.out); (have yl := World.block_lt_of_cell? _ _ y0); (have y1 := keep hS.b Y1.out); (obtain ⟨hlt, hki⟩ := HK.out); clear hS; go_simp; first | done | exact rfl)); (case putuc3 => (first | (simp only [Act.put, List.setIfInBounds_toArray, List.set_cons_zero, List.set_cons_succ]; first | done | exact rfl) | rfl)); (case' nextuc3 => skip))
            (refine' GG.grow_lit (GG.BelL.still) rfl ?wtuc4 ?runuc4 ?putuc4 ?nextuc4; (case wtuc4 => rfl); (case runuc4 => (intro w' hS; (obtain ⟨dn, s, hS⟩ := hS); (have x0 := keep hS.b X0.out); (have xl := World.block_lt_of_cell? _ _ x0); (have x1 := keep hS.b X1.out); (have y0 := keep hS.b Y0.out); (have yl := World.block_lt_of_cell? _ _ y0); (have y1 := keep hS.b Y1.out); (obtain ⟨hlt, hki⟩ := HK.out); clear hS; go_simp; first | done | exact rfl)); (case putuc4 => (first | (simp only [Act.put, List.setIfInBounds_toArray, List.set_cons_zero, List.set_cons_succ]; first | done | exact rfl) | rfl)); (case' nextuc4 => skip))
            (refine' GG.grow_lit (GG.BelL.still) rfl ?wtuc5 ?runuc5 ?putuc5 ?nextuc5; (case wtuc5 => rfl); (case runuc5 => (intro w' hS; (obtain ⟨dn, s, hS⟩ := hS); (have x0 := keep hS.b X0.out); (have xl := World.block_lt_of_cell? _ _ x0); (have x1 := keep hS.b X1.out); (have y0 := keep hS.b Y0.out); (have yl := World.block_lt_of_cell? _ _ y0); (have y1 := keep hS.b Y1.out); (obtain ⟨hlt, hki⟩ := HK.out); clear hS; go_simp; first | done | exact rfl)); (case putuc5 => (first | (simp only [Act.put, List.setIfInBounds_toArray, List.set_cons_zero, List.set_cons_succ]; first | done | exact rfl) | rfl)); (case' nextuc5 => skip))
            (refine' GG.grow_lit (GG.BelL.still) rfl ?wtuc6 ?runuc6 ?putuc6 ?nextuc6; (case wtuc6 => rfl); (case runuc6 => (intro w' hS; (obtain ⟨dn, s, hS⟩ := hS); (have x0 := keep hS.b X0.out); (have xl := World.block_lt_of_cell? _ _ x0); (have x1 := keep hS.b X1.out); (have y0 := keep hS.b Y0.out); (have yl := World.block_lt_of_cell? _ _ y0); (have y1 := keep hS.b Y1.out); (obtain ⟨hlt, hki⟩ := HK.out); clear hS; go_simp; first | done | exact rfl)); (case putuc6 => (first | (simp only [Act.put, List.setIfInBounds_toArray, List.set_cons_zero, List.set_cons_succ]; first | done | exact rfl) | rfl)); (case' nextuc6 => skip))
            (refine' GG.grow_lit (GG.BelL.still) rfl ?wtuc7 ?runuc7 ?putuc7 ?nextuc7; (case wtuc7 => rfl); (case runuc7 => (intro w' hS; (obtain ⟨dn, s, hS⟩ := hS); (have x0 := keep hS.b X0.out); (have xl := World.block_lt_of_cell? _ _ x0); (have x1 := keep hS.b X1.out); (have y0 := keep hS.b Y0.out); (have yl := World.block_lt_of_cell? _ _ y0); (have y1 := keep hS.b Y1.out); (obtain ⟨hlt, hki⟩ := HK.out); clear hS; go_simp; first | done | exact rfl)); (case putuc7 => (first | (simp only [Act.put, List.setIfInBounds_toArray, List.set_cons_zero, List.set_cons_succ]; first | done | exact rfl) | rfl)); (case' nextuc7 => skip))
            (refine' GG.grow_lit (GG.BelL.still) rfl ?wtuc8 ?runuc8 ?putuc8 ?nextuc8; (case wtuc8 => rfl); (case runuc8 => (intro w' hS; (obtain ⟨dn, s, hS⟩ := hS); (have x0 := keep hS.b X0.out); (have xl := World.block_lt_of_cell? _ _ x0); (have x1 := keep hS.b X1.out); (have y0 := keep hS.b Y0.out); (have yl := World.block_lt_of_cell? _ _ y0); (have y1 := keep hS.b Y1.out); (obtain ⟨hlt, hki⟩ := HK.out); clear hS; go_simp; first | done | exact rfl)); (case putuc8 => (first | (simp only [Act.put, List.setIfInBounds_toArray, List.set_cons_zero, List.set_cons_succ]; first | done | exact rfl) | rfl)); (case' nextuc8 => skip))
            (refine' GG.grow_lit (GG.BelL.still) rfl ?wtuc9 ?runuc9 ?putuc9 ?nextuc9; (case wtuc9 => rfl); (case runuc9 => (intro w' hS; (obtain ⟨dn, s, hS⟩ := hS); (have x0 := keep hS.b X0.out); (have xl := World.block_lt_of_cell? _ _ x0); (have x1 := keep hS.b X1.out); (have y0 := keep hS.b Y0.out); (have yl := World.block_lt_of_cell? _ _ y0); (have y1 := keep hS.b Y1.out); (obtain ⟨hlt, hki⟩ := HK.out); clear hS; go_simp; first | done | exact rfl)); (case putuc9 => (first | (simp only [Act.put, List.setIfInBounds_toArray, List.set_cons_zero, List.set_cons_succ]; first | done | exact rfl) | rfl)); (case' nextuc9 => skip))
            (refine' GG.grow_lit_call (u := .bool true) rfl Tryd.func12 (by kernel_rfl) rfl rfl ?wtuc10 ?runuc10 ?putuc10 ?nextuc10; (case wtuc10 => rfl); (case runuc10 => (intro dn s w' hS hd H; exact (sameB_is (XB.out.below hS.b) (YB.out.below hS.b) (by simp : decide (x.side = x.side) = true)).mono (fun e w2 h => ⟨(), h.1, ⟨hS.b.trans (h.2.mono hS.b.size)⟩, h.2, h.2.size⟩))); (case putuc10 => (first | (simp only [Act.put, List.setIfInBounds_toArray, List.set_cons_zero, List.set_cons_succ]; first | done | exact rfl) | rfl)); (case' nextuc10 => skip))
            (refine' GG.grow_lit (GG.BelL.still) rfl ?wtuc11 ?runuc11 ?putuc11 ?nextuc11; (case wtuc11 => rfl); (case runuc11 => (intro w' hS; (obtain ⟨dn, s, hS⟩ := hS); (have x0 := keep hS.b X0.out); (have xl := World.block_lt_of_cell? _ _ x0); (have x1 := keep hS.b X1.out); (have y0 := keep hS.b Y0.out); (have yl := World.block_lt_of_cell? _ _ y0); (have y1 := keep hS.b Y1.out); (obtain ⟨hlt, hki⟩ := HK.out); clear hS; go_simp; first | done | exact rfl)); (case putuc11 => (first | (simp only [Act.put, List.setIfInBounds_toArray, List.set_cons_zero, List.set_cons_succ]; first | done | exact rfl) | rfl)); (case' nextuc11 => skip))
            (refine' GG.grow_lit (GG.BelL.still) rfl ?wtuc12 ?runuc12 ?putuc12 ?nextuc12; (case wtuc12 => rfl); (case runuc12 => (intro w' hS; (obtain ⟨dn, s, hS⟩ := hS); (have x0 := keep hS.b X0.out); (have xl := World.block_lt_of_cell? _ _ x0); (have x1 := keep hS.b X1.out); (have y0 := keep hS.b Y0.out); (have yl := World.block_lt_of_cell? _ _ y0); (have y1 := keep hS.b Y1.out); (obtain ⟨hlt, hki⟩ := HK.out); clear hS; go_simp; first | done | exact rfl)); (case putuc12 => (first | (simp only [Act.put, List.setIfInBounds_toArray, List.set_cons_zero, List.set_cons_succ]; first | done | exact rfl) | rfl)); (case' nextuc12 => skip))
            (refine' GG.grow_lit (GG.BelL.still) rfl ?wtuc13 ?runuc13 ?putuc13 ?nextuc13; (case wtuc13 => rfl); (case runuc13 => (intro w' hS; (obtain ⟨dn, s, hS⟩ := hS); (have x0 := keep hS.b X0.out); (have xl := World.block_lt_of_cell? _ _ x0); (have x1 := keep hS.b X1.out); (have y0 := keep hS.b Y0.out); (have yl := World.block_lt_of_cell? _ _ y0); (have y1 := keep hS.b Y1.out); (obtain ⟨hlt, hki⟩ := HK.out); clear hS; go_simp; first | done | exact rfl)); (case putuc13 => (first | (simp only [Act.put, List.setIfInBounds_toArray, List.set_cons_zero, List.set_cons_succ]; first | done | exact rfl) | rfl)); (case' nextuc13 => skip))
            (refine' GG.grow_lit (GG.BelL.still) rfl ?wtuc14 ?runuc14 ?putuc14 ?nextuc14; (case wtuc14 => rfl); (case runuc14 => (intro w' hS; (obtain ⟨dn, s, hS⟩ := hS); (have x0 := keep hS.b X0.out); (have xl := World.block_lt_of_cell? _ _ x0); (have x1 := keep hS.b X1.out); (have y0 := keep hS.b Y0.out); (have yl := World.block_lt_of_cell? _ _ y0); (have y1 := keep hS.b Y1.out); (obtain ⟨hlt, hki⟩ := HK.out); clear hS; go_simp; first | done | exact rfl)); (case putuc14 => (first | (simp only [Act.put, List.setIfInBounds_toArray, List.set_cons_zero, List.set_cons_succ]; first | done | exact rfl) | rfl)); (case' nextuc14 => skip))
            (refine' GG.grow_lit (GG.BelL.still) rfl ?wtuc15 ?runuc15 ?putuc15 ?nextuc15; (case wtuc15 => rfl); (case runuc15 => (intro w' hS; (obtain ⟨dn, s, hS⟩ := hS); (have x0 := keep hS.b X0.out); (have xl := World.block_lt_of_cell? _ _ x0); (have x1 := keep hS.b X1.out); (have y0 := keep hS.b Y0.out); (have yl := World.block_lt_of_cell? _ _ y0); (have y1 := keep hS.b Y1.out); (obtain ⟨hlt, hki⟩ := HK.out); clear hS; go_simp; first | done | exact rfl)); (case putuc15 => (first | (simp only [Act.put, List.setIfInBounds_toArray, List.set_cons_zero, List.set_cons_succ]; first | done | exact rfl) | rfl)); (case' nextuc15 => skip))
            (refine' GG.grow_lit (GG.BelL.still) rfl ?wtuc16 ?runuc16 ?putuc16 ?nextuc16; (case wtuc16 => rfl); (case runuc16 => (intro w' hS; (obtain ⟨dn, s, hS⟩ := hS); (have x0 := keep hS.b X0.out); (have xl := World.block_lt_of_cell? _ _ x0); (have x1 := keep hS.b X1.out); (have y0 := keep hS.b Y0.out); (have yl := World.block_lt_of_cell? _ _ y0); (have y1 := keep hS.b Y1.out); (obtain ⟨hlt, hki⟩ := HK.out); clear hS; go_simp; first | done | exact rfl)); (case putuc16 => (first | (simp only [Act.put, List.setIfInBounds_toArray, List.set_cons_zero, List.set_cons_succ]; first | done | exact rfl) | rfl)); (case' nextuc16 => skip))
            (refine' GG.grow_lit (GG.BelL.still) rfl ?wtuc17 ?runuc17 ?putuc17 ?nextuc17; (case wtuc17 => rfl); (case runuc17 => (intro w' hS; (obtain ⟨dn, s, hS⟩ := hS); (have x0 := keep hS.b X0.out); (have xl := World.block_lt_of_cell? _ _ x0); (have x1 := keep hS.b X1.out); (have y0 := keep hS.b Y0.out); (have yl := World.block_lt_of_cell? _ _ y0); (have y1 := keep hS.b Y1.out); (obtain ⟨hlt, hki⟩ := HK.out); clear hS; go_simp; first | done | exact rfl)); (case putuc17 => (first | (simp only [Act.put, List.setIfInBounds_toArray, List.set_cons_zero, List.set_cons_succ]; first | done | exact rfl) | rfl)); (case' nextuc17 => skip))
            (refine' GG.grow_lit (GG.BelL.still) rfl ?wtuc18 ?runuc18 ?putuc18 ?nextuc18; (case wtuc18 => rfl); (case runuc18 => (intro w' hS; (obtain ⟨dn, s, hS⟩ := hS); (have x0 := keep hS.b X0.out); (have xl := World.block_lt_of_cell? _ _ x0); (have x1 := keep hS.b X1.out); (have y0 := keep hS.b Y0.out); (have yl := World.block_lt_of_cell? _ _ y0); (have y1 := keep hS.b Y1.out); (obtain ⟨hlt, hki⟩ := HK.out); clear hS; go_simp; first | done | exact rfl)); (case putuc18 => (first | (simp only [Act.put, List.setIfInBounds_toArray, List.set_cons_zero, List.set_cons_succ]; first | done | exact rfl) | rfl)); (case' nextuc18 => skip))
            (refine' GG.grow_lit (GG.BelL.still) rfl ?wtuc19 ?runuc19 ?putuc19 ?nextuc19; (case wtuc19 => rfl); (case runuc19 => (intro w' hS; (obtain ⟨dn, s, hS⟩ := hS); (have x0 := keep hS.b X0.out); (have xl := World.block_lt_of_cell? _ _ x0); (have x1 := keep hS.b X1.out); (have y0 := keep hS.b Y0.out); (have yl := World.block_lt_of_cell? _ _ y0); (have y1 := keep hS.b Y1.out); (obtain ⟨hlt, hki⟩ := HK.out); clear hS; go_simp; first | done | exact rfl)); (case putuc19 => (first | (simp only [Act.put, List.setIfInBounds_toArray, List.set_cons_zero, List.set_cons_succ]; first | done | exact rfl) | rfl)); (case' nextuc19 => skip))
            (refine' GG.grow_lit (GG.BelL.still) rfl ?wtuc20 ?runuc20 ?putuc20 ?nextuc20; (case wtuc20 => rfl); (case runuc20 => (intro w' hS; (obtain ⟨dn, s, hS⟩ := hS); (have x0 := keep hS.b X0.out); (have xl := World.block_lt_of_cell? _ _ x0); (have x1 := keep hS.b X1.out); (have y0 := keep hS.b Y0.out); (have yl := World.block_lt_of_cell? _ _ y0); (have y1 := keep hS.b Y1.out); (obtain ⟨hlt, hki⟩ := HK.out); clear hS; go_simp; first | done | exact rfl)); (case putuc20 => (first | (simp only [Act.put, List.setIfInBounds_toArray, List.set_cons_zero, List.set_cons_succ]; first | done | exact rfl) | rfl)); (case' nextuc20 => skip))
            (refine' GG.grow_lit (GG.BelL.still) rfl ?wtuc21 ?runuc21 ?putuc21 ?nextuc21; (case wtuc21 => rfl); (case runuc21 => (intro w' hS; (obtain ⟨dn, s, hS⟩ := hS); (have x0 := keep hS.b X0.out); (have xl := World.block_lt_of_cell? _ _ x0); (have x1 := keep hS.b X1.out); (have y0 := keep hS.b Y0.out); (have yl := World.block_lt_of_cell? _ _ y0); (have y1 := keep hS.b Y1.out); (obtain ⟨hlt, hki⟩ := HK.out); clear hS; go_simp; first | done | exact rfl)); (case putuc21 => (first | (simp only [Act.put, List.setIfInBounds_toArray, List.set_cons_zero, List.set_cons_succ]; first | done | exact rfl) | rfl)); (case' nextuc21 => skip))
            (refine' GG.grow_lit (GG.BelL.still) rfl ?wtuc22 ?runuc22 ?putuc22 ?nextuc22; (case wtuc22 => rfl); (case runuc22 => (intro w' hS; (obtain ⟨dn, s, hS⟩ := hS); (have x0 := keep hS.b X0.out); (have xl := World.block_lt_of_cell? _ _ x0); (have x1 := keep hS.b X1.out); (have y0 := keep hS.b Y0.out); (have yl := World.block_lt_of_cell? _ _ y0); (have y1 := keep hS.b Y1.out); (obtain ⟨hlt, hki⟩ := HK.out); clear hS; go_simp; first | done | exact rfl)); (case putuc22 => (first | (simp only [Act.put, List.setIfInBounds_toArray, List.set_cons_zero, List.set_cons_succ]; first | done | exact rfl) | rfl)); (case' nextuc22 => skip))
            (refine' GG.grow_lit (GG.BelL.still) rfl ?wtuc23 ?runuc23 ?putuc23 ?nextuc23; (case wtuc23 => rfl); (case runuc23 => (intro w' hS; (obtain ⟨dn, s, hS⟩ := hS); (have x0 := keep hS.b X0.out); (have xl := World.block_lt_of_cell? _ _ x0); (have x1 := keep hS.b X1.out); (have y0 := keep hS.b Y0.out); (have yl := World.block_lt_of_cell? _ _ y0); (have y1 := keep hS.b Y1.out); (obtain ⟨hlt, hki⟩ := HK.out); clear hS; go_simp; first | done | exact rfl)); (case putuc23 => (first | (simp only [Act.put, List.setIfInBounds_toArray, List.set_cons_zero, List.set_cons_succ]; first | done | exact rfl) | rfl)); (case' nextuc23 => skip))
            (refine' GG.grow_lit (GG.BelL.still) rfl ?wtuc24 ?runuc24 ?putuc24 ?nextuc24; (case wtuc24 => rfl); (case runuc24 => (intro w' hS; (obtain ⟨dn, s, hS⟩ := hS); (have x0 := keep hS.b X0.out); (have xl := World.block_lt_of_cell? _ _ x0); (have x1 := keep hS.b X1.out); (have y0 := keep hS.b Y0.out); (have yl := World.block_lt_of_cell? _ _ y0); (have y1 := keep hS.b Y1.out); (obtain ⟨hlt, hki⟩ := HK.out); clear hS; go_simp; first | done | exact rfl)); (case putuc24 => (first | (simp only [Act.put, List.setIfInBounds_toArray, List.set_cons_zero, List.set_cons_succ]; first | done | exact rfl) | rfl)); (case' nextuc24 => skip))
            intro dn s w8 hS _ _
            have HBN := Lib.hid (bOn6 HBX.out hS.b)
            clear hS DS0
            go_wp2_with fail
            go_roundw
            case rel => exact ⟨i + 1, HK.out.1, by go_num, HBN.out⟩
            case measure => simp [intOf]; omega
end Go.Proofs.YthfljimgpcignaaDoor
