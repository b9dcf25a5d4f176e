/-
  PROVED: points that are mirrored in the line x = y stand in the row of y as they stood in that of x, and in that of the sum as they stood; mirrored at 0 they stand the other way round. For all points.
-/
import Derived.Test.YtleheaffipokfaaLnG
import Derived.Test.YtleheaffipokfaaLnIn
namespace Go.Proofs.Ytleheaffipokfaa
open Go.ChangeShapes Go.WideShapes Go.ChangeAt Go.RowKit Go.Sort

theorem wfi16 {a : Int} (h : (Lit.int .i16 a).wf = true) : -32768 ≤ a ∧ a ≤ 32767 := by
  simpa [Lit.wf, IntKind.min, IntKind.max, IntKind.signed, IntKind.bits] using h
def TRel (w : World) (l : List (Int × Int)) (v1 v2 iv : Value) (wr : World) : Prop := ∃ k : Nat, k ≤ l.length ∧ iv = .int .i64 k ∧ PT w (mirL (l.take k)) v1 (minL (l.take k)) v2 wr
def DRel (w : World) (n : Nat) (iv : Value) (wr : World) : Prop := ∃ d : Nat, d ≤ n ∧ iv = .int .i64 d ∧ Below w.heap.size w wr
theorem PT.shape1 {w0 w : World} {l1 l2 : List (Int × Int)} {v1 v2 : Value} (h : PT w0 l1 v1 l2 v2 w) {n : Nat} (hn : l1.length = n) : ∃ q c, v1 = .slice q n c := by
  obtain ⟨q, c, e⟩ := own_shape h.r1
  exact ⟨q, c, by rw [e, hn]⟩
set_option maxHeartbeats 8000000 in
set_option maxRecDepth 100000 in
theorem turned_walk (ev : Value) (l : List (Int × Int)) (w : World) (he : Prs w ev l) (_ : InPrs l) :
    Calls Try.prog 5 #[ev] w fun e w' => e = .returned (.bool true) ∧ Below w.heap.size w w' := by
  obtain ⟨eq0, ec0, rfl⟩ := he.shape
  have HB := Lib.hid (Below.refl w.heap.size w)
  have HE := Lib.hid he
  clear he
  go_enter Try.func5, Try.ntmps5
  go_wp2_with fail
  refine (known10_any _).mono ?_
  rintro e w1 ⟨rfl, hb⟩
  have HB_ := Lib.hid (bOn6 HB.out hb)
  have HE_ := Lib.hid (HE.out.below hb)
  clear HB HE
  have HB := HB_
  have HE := HE_
  clear HB_ HE_
  clear hb
  obtain ⟨r, hr⟩ : ∃ r, nearB l = r := ⟨_, rfl⟩
  have HR := Lib.hid hr
  clear hr
  go_wp2_with fail
  refine (near_is HE.out HR.out).mono ?_
  rintro e w2 ⟨rfl, rfl⟩
  cases r
  · go_wp2_with fail
    go_ret
    exact ⟨rfl, HB.out⟩
  have HSM := Lib.hid (near_small HR.out).1
  have HLE : Hid (l.length ≤ 120) := Lib.hid (near_small HR.out).2
  go_wp2_with fail
  clear HR
  go_loopw [3, 4, 5] (fun v1 v2 iv wr => TRel w1 l v1 v2 iv wr) (fun _ _ iv _ => l.length - (intOf iv).toNat)
  case atStart => exact ⟨0, Nat.zero_le _, rfl, by rw [List.take_zero]; exact PT.nil⟩
  case round =>
    obtain ⟨k, hk, rfl, hm⟩ := hrel
    have HM := Lib.hid hm
    by_cases hlt : k < l.length
    · have hki : (k : Int) < (l.length : Int) := by omega
      obtain ⟨⟨x, y⟩, hxy⟩ : ∃ e, l[k]? = some e := ⟨_, List.getElem?_eq_getElem hlt⟩
      obtain ⟨eb, eo, rfl, z0, z1, -⟩ := HE.out.atP hxy
      have Z0 := Lib.hid z0
      have Z1 := Lib.hid z1
      have hxe : l[k] = (x, y) := (List.getElem?_eq_some_iff.1 hxy).2
      have HM1 := Lib.hid (mirL_snoc hlt hxe)
      have HM2 := Lib.hid (minL_snoc hlt hxe)
      obtain ⟨⟨s0, s1⟩, s2, s3⟩ := HSM.out.at hlt
      rw [hxe] at s0 s1 s2 s3
      simp only at s0 s1 s2 s3
      have wx : IntKind.i64.wrap (0 - x) = 0 - x := IntWalk.i64_in _ (by omega)
      have wy : IntKind.i64.wrap (0 - y) = 0 - y := IntWalk.i64_in _ (by omega)
      have WX : Hid (IntKind.i64.wrap (0 - x) = 0 - x ∧ IntKind.i64.wrap (0 - y) = 0 - y ∧ IntKind.i64.wrap (-x) = -x ∧ IntKind.i64.wrap (-y) = -y) := Lib.hid ⟨wx, wy, IntWalk.i64_in _ (by omega), IntWalk.i64_in _ (by omega)⟩
      have HL1 : Hid ((mirL (l.take k)).length ≤ 100000 ∧ (minL (l.take k)).length ≤ 100000) := Lib.hid (by rw [mirL_len, minL_len, List.length_take]; have := HLE.out; omega)
      have SA0 : Hid (GG.ApS 13 (PT w1 (mirL (l.take k)) u3 (minL (l.take k)) u4) w1 (fun _ => false) false wr.drew) := Lib.hid ⟨rfl, fun _ => PT.stab _ _ HM.out (Below.refl _ _).drew, HM.out.b.drew⟩
      have hwk : IntKind.i64.wrap ((k : Int) + 1) = (k : Int) + 1 := IntWalk.i64_in _ (by have := HLE.out; omega)
      clear z0 z1 hxy hxe hm s0 s1 s2 s3 wx wy
      go_wp2_with fail
      refine' GG.wp_thenL _ 14 (GG.ApS 13 (PT w1 (mirL (l.take k)) u3 (minL (l.take k)) u4) w1) [[], [], [], [1, 2], [1, 2, 3], [1, 2, 3, 4], [], [], [6, 7], [6, 7, 8], [6, 7, 8, 9], [1, 2, 3, 4, 5, 6, 7, 8, 9, 10], [1, 2, 3, 4, 5, 6, 7, 8, 9, 10, 11], [0, 1, 2, 3, 4, 5, 6, 7, 8, 9, 10, 11, 12]] (GG.Fact.lit (Rl := GG.RlA) _ :: GG.Fact.lit (Rl := GG.RlA) _ :: GG.Fact.lit (Rl := GG.RlA) _ :: GG.Fact.lit (Rl := GG.RlA) _ :: GG.Fact.lit (Rl := GG.RlA) _ :: GG.Fact.lit (Rl := GG.RlA) _ :: GG.Fact.lit (Rl := GG.RlA) _ :: GG.Fact.lit (Rl := GG.RlA) _ :: GG.Fact.lit (Rl := GG.RlA) _ :: GG.Fact.lit (Rl := GG.RlA) _ :: GG.Fact.lit (Rl := GG.RlA) _ :: GG.Fact.lit (Rl := GG.RlA) _ :: GG.Fact.prop (Rl := GG.RlA) _ _ :: GG.Fact.prop (Rl := GG.RlA) _ _ :: []) (by kernel_rfl) rfl (by kernel_rfl) (false) (SA0.out) ?seqta
      case' seqta => skip
      (refine' GG.grow_lit (GG.ApS.still (by decide)) rfl ?wtta0 ?runta0 ?putta0 ?nextta0; (case wtta0 => rfl); (case runta0 => (intro w' hS; (obtain ⟨dn, s, hS⟩ := hS); (have z0 := keep hS.b Z0.out); (have z1 := keep hS.b Z1.out); (have zl := World.block_lt_of_cell? _ _ z0); (obtain ⟨wx, wy, wx2, wy2⟩ := WX.out); clear hS; go_simp; first | done | exact rfl)); (case putta0 => (first | (simp only [Act.put, List.setIfInBounds_toArray, List.set_cons_zero, List.set_cons_succ]; first | done | exact rfl) | rfl)); (case' nextta0 => skip))
      (refine' GG.grow_lit (GG.ApS.still (by decide)) rfl ?wtta1 ?runta1 ?putta1 ?nextta1; (case wtta1 => rfl); (case runta1 => (intro w' hS; (obtain ⟨dn, s, hS⟩ := hS); (have z0 := keep hS.b Z0.out); (have z1 := keep hS.b Z1.out); (have zl := World.block_lt_of_cell? _ _ z0); (obtain ⟨wx, wy, wx2, wy2⟩ := WX.out); clear hS; go_simp; first | done | exact rfl)); (case putta1 => (first | (simp only [Act.put, List.setIfInBounds_toArray, List.set_cons_zero, List.set_cons_succ]; first | done | exact rfl) | rfl)); (case' nextta1 => skip))
      (refine' GG.grow_lit (GG.ApS.still (by decide)) rfl ?wtta2 ?runta2 ?putta2 ?nextta2; (case wtta2 => rfl); (case runta2 => (intro w' hS; (obtain ⟨dn, s, hS⟩ := hS); (have z0 := keep hS.b Z0.out); (have z1 := keep hS.b Z1.out); (have zl := World.block_lt_of_cell? _ _ z0); (obtain ⟨wx, wy, wx2, wy2⟩ := WX.out); clear hS; go_simp; first | done | exact rfl)); (case putta2 => (first | (simp only [Act.put, List.setIfInBounds_toArray, List.set_cons_zero, List.set_cons_succ]; first | done | exact rfl) | rfl)); (case' nextta2 => skip))
      (refine' GG.grow_lit (GG.ApS.still (by decide)) rfl ?wtta3 ?runta3 ?putta3 ?nextta3; (case wtta3 => rfl); (case runta3 => (intro w' hS; (obtain ⟨dn, s, hS⟩ := hS); (have z0 := keep hS.b Z0.out); (have z1 := keep hS.b Z1.out); (have zl := World.block_lt_of_cell? _ _ z0); (obtain ⟨wx, wy, wx2, wy2⟩ := WX.out); clear hS; go_simp; first | done | exact rfl)); (case putta3 => (first | (simp only [Act.put, List.setIfInBounds_toArray, List.set_cons_zero, List.set_cons_succ]; first | done | exact rfl) | rfl)); (case' nextta3 => skip))
      (refine' GG.grow_lit (GG.ApS.still (by decide)) rfl ?wtta4 ?runta4 ?putta4 ?nextta4; (case wtta4 => rfl); (case runta4 => (intro w' hS; (obtain ⟨dn, s, hS⟩ := hS); (have z0 := keep hS.b Z0.out); (have z1 := keep hS.b Z1.out); (have zl := World.block_lt_of_cell? _ _ z0); (obtain ⟨wx, wy, wx2, wy2⟩ := WX.out); clear hS; go_simp; first | done | exact rfl)); (case putta4 => (first | (simp only [Act.put, List.setIfInBounds_toArray, List.set_cons_zero, List.set_cons_succ]; first | done | exact rfl) | rfl)); (case' nextta4 => skip))
      (refine' GG.grow_lit (GG.ApS.still (by decide)) rfl ?wtta5 ?runta5 ?putta5 ?nextta5; (case wtta5 => rfl); (case runta5 => (intro w' hS; (obtain ⟨dn, s, hS⟩ := hS); (have z0 := keep hS.b Z0.out); (have z1 := keep hS.b Z1.out); (have zl := World.block_lt_of_cell? _ _ z0); (obtain ⟨wx, wy, wx2, wy2⟩ := WX.out); clear hS; go_simp; first | done | exact rfl)); (case putta5 => (first | (simp only [Act.put, List.setIfInBounds_toArray, List.set_cons_zero, List.set_cons_succ]; first | done | exact rfl) | rfl)); (case' nextta5 => skip))
      (refine' GG.grow_lit (GG.ApS.still (by decide)) rfl ?wtta6 ?runta6 ?putta6 ?nextta6; (case wtta6 => rfl); (case runta6 => (intro w' hS; (obtain ⟨dn, s, hS⟩ := hS); (have z0 := keep hS.b Z0.out); (have z1 := keep hS.b Z1.out); (have zl := World.block_lt_of_cell? _ _ z0); (obtain ⟨wx, wy, wx2, wy2⟩ := WX.out); clear hS; go_simp; first | done | exact rfl)); (case putta6 => (first | (simp only [Act.put, List.setIfInBounds_toArray, List.set_cons_zero, List.set_cons_succ]; first | done | exact rfl) | rfl)); (case' nextta6 => skip))
      (refine' GG.grow_lit (GG.ApS.still (by decide)) rfl ?wtta7 ?runta7 ?putta7 ?nextta7; (case wtta7 => rfl); (case runta7 => (intro w' hS; (obtain ⟨dn, s, hS⟩ := hS); (have z0 := keep hS.b Z0.out); (have z1 := keep hS.b Z1.out); (have zl := World.block_lt_of_cell? _ _ z0); (obtain ⟨wx, wy, wx2, wy2⟩ := WX.out); clear hS; go_simp; first | done | exact rfl)); (case putta7 => (first | (simp only [Act.put, List.setIfInBounds_toArray, List.set_cons_zero, List.set_cons_succ]; first | done | exact rfl) | rfl)); (case' nextta7 => skip))
      (refine' GG.grow_lit (GG.ApS.still (by decide)) rfl ?wtta8 ?runta8 ?putta8 ?nextta8; (case wtta8 => rfl); (case runta8 => (intro w' hS; (obtain ⟨dn, s, hS⟩ := hS); (have z0 := keep hS.b Z0.out); (have z1 := keep hS.b Z1.out); (have zl := World.block_lt_of_cell? _ _ z0); (obtain ⟨wx, wy, wx2, wy2⟩ := WX.out); clear hS; go_simp; first | done | exact rfl)); (case putta8 => (first | (simp only [Act.put, List.setIfInBounds_toArray, List.set_cons_zero, List.set_cons_succ]; first | done | exact rfl) | rfl)); (case' nextta8 => skip))
      (refine' GG.grow_lit (GG.ApS.still (by decide)) rfl ?wtta9 ?runta9 ?putta9 ?nextta9; (case wtta9 => rfl); (case runta9 => (intro w' hS; (obtain ⟨dn, s, hS⟩ := hS); (have z0 := keep hS.b Z0.out); (have z1 := keep hS.b Z1.out); (have zl := World.block_lt_of_cell? _ _ z0); (obtain ⟨wx, wy, wx2, wy2⟩ := WX.out); clear hS; go_simp; first | done | exact rfl)); (case putta9 => (first | (simp only [Act.put, List.setIfInBounds_toArray, List.set_cons_zero, List.set_cons_succ]; first | done | exact rfl) | rfl)); (case' nextta9 => skip))
      (refine' GG.grow_lit (GG.ApS.still (by decide)) rfl ?wtta10 ?runta10 ?putta10 ?nextta10; (case wtta10 => rfl); (case runta10 => (intro w' hS; (obtain ⟨dn, s, hS⟩ := hS); (have z0 := keep hS.b Z0.out); (have z1 := keep hS.b Z1.out); (have zl := World.block_lt_of_cell? _ _ z0); (obtain ⟨wx, wy, wx2, wy2⟩ := WX.out); clear hS; go_simp; first | done | exact rfl)); (case putta10 => (first | (simp only [Act.put, List.setIfInBounds_toArray, List.set_cons_zero, List.set_cons_succ]; first | done | exact rfl) | rfl)); (case' nextta10 => skip))
      (refine' GG.grow_lit (GG.ApS.still (by decide)) rfl ?wtta11 ?runta11 ?putta11 ?nextta11; (case wtta11 => rfl); (case runta11 => (intro w' hS; (obtain ⟨dn, s, hS⟩ := hS); (have z0 := keep hS.b Z0.out); (have z1 := keep hS.b Z1.out); (have zl := World.block_lt_of_cell? _ _ z0); (obtain ⟨wx, wy, wx2, wy2⟩ := WX.out); clear hS; go_simp; first | done | exact rfl)); (case putta11 => (first | (simp only [Act.put, List.setIfInBounds_toArray, List.set_cons_zero, List.set_cons_succ]; first | done | exact rfl) | rfl)); (case' nextta11 => skip))
      (refine' GG.grow_any_op (p := GG.LitP #[.int .i64 y, .int .i64 x]) (hp := GG.LitP.st #[.int .i64 y, .int .i64 x]) rfl ?wtta12 ?runta12 ?putta12 ?nextta12; (case wtta12 => rfl); (case runta12 => (intro dn s w' hS hd H; (refine ⟨.slice (some ⟨w'.heap.size, 0, none⟩) 1 1, s, w'.alloc (.cells #[.int .i64 y, .int .i64 x] 30), ?_, fun _ => ⟨w'.heap.size, rfl, Blk.new _ _ _ _ rfl⟩, (hS.step (by decide)).old PT.stab (below_alloc1 _), ⟨id, fun _ => below_alloc1 _⟩, (below_alloc1 _).size⟩; clear hS hd H; go_simp))); (case putta12 => (intro v; (simp only [Act.put, List.setIfInBounds_toArray, List.set_cons_zero, List.set_cons_succ]; first | done | exact rfl))); (case' nextta12 => intro v12))
      (refine' GG.grow_any_op (p := GG.ApT (fun v w => PT w1 ((mirL (l.take k)) ++ [(y, x)]) v (minL (l.take k)) u4 w)) (hp := GG.ApT.st (fun _ => PT.stab)) rfl ?wtta13 ?runta13 ?putta13 ?nextta13; (case wtta13 => rfl); (case runta13 => (intro dn s w' hS hd H; (obtain rfl : s = false := hS.here.symm.trans hd); (obtain ⟨g, e9, kg⟩ := (show GG.LitP #[.int .i64 y, .int .i64 x] v12 false w' from H 12 (by decide)) rfl); (obtain ⟨q', n', c', w7, hr, hP, hz⟩ := (hS.r rfl).app kg HL1.out.1); subst e9; exact ⟨_, true, w7, GG.exec_append (.tmp 21) (.tmp 33) 22 rfl rfl rfl hr, ⟨rfl, ⟨_, _, _, rfl⟩, hP⟩, ⟨rfl, (fun h => by cases h), hP.b⟩, ⟨fun _ => rfl, fun h => by cases h⟩, hz⟩)); (case putta13 => (intro v; (simp only [Act.put, List.setIfInBounds_toArray, List.set_cons_zero, List.set_cons_succ]; first | done | exact rfl))); (case' nextta13 => intro v13))
      intro dn s w7 hS7 _ hk7
      obtain ⟨-, ⟨qz, nz, cz, rfl⟩, hP⟩ : GG.ApT (fun v w => PT w1 ((mirL (l.take k)) ++ [(y, x)]) v (minL (l.take k)) u4 w) v13 s w7 := hk7 13 (by decide)
      have HP := Lib.hid hP
      obtain ⟨u7, hu7⟩ : ∃ u7, Value.slice qz nz cz = u7 := ⟨_, rfl⟩
      have SB0 : Hid (GG.ApS 15 (PT w1 ((mirL (l.take k)) ++ [(y, x)]) u7 (minL (l.take k)) u4) w1 (fun _ => false) false w7.drew) := Lib.hid ⟨rfl, fun _ => PT.stab _ _ (by rw [← hu7]; exact HP.out) (Below.refl _ _).drew, HP.out.b.drew⟩
      clear hk7 hS7 hP SA0
      refine wpAny_ready (rs := [14]) (by kernel_rfl) (by simp) (AllReady.cons rfl (fun K hK => ?_) AllReady.nil)
      go_simp
      refine hK _ _ ?_
      clear hK K
      refine wpAny_done (by kernel_rfl) ?_ _
      clear hu7
      go_wp2_with fail
      refine' GG.wp_thenL _ 16 (GG.ApS 15 (PT w1 ((mirL (l.take k)) ++ [(y, x)]) u7 (minL (l.take k)) u4) w1) [[], [], [], [1, 2], [1, 2, 3], [1, 2, 3, 4], [1, 2, 3, 4, 5], [], [], [7, 8], [7, 8, 9], [7, 8, 9, 10], [7, 8, 9, 10, 11], [1, 2, 3, 4, 5, 6, 7, 8, 9, 10, 11, 12], [1, 2, 3, 4, 5, 6, 7, 8, 9, 10, 11, 12, 13], [0, 1, 2, 3, 4, 5, 6, 7, 8, 9, 10, 11, 12, 13, 14]] (GG.Fact.lit (Rl := GG.RlA) _ :: GG.Fact.lit (Rl := GG.RlA) _ :: GG.Fact.lit (Rl := GG.RlA) _ :: GG.Fact.lit (Rl := GG.RlA) _ :: GG.Fact.lit (Rl := GG.RlA) _ :: GG.Fact.lit (Rl := GG.RlA) _ :: GG.Fact.lit (Rl := GG.RlA) _ :: GG.Fact.lit (Rl := GG.RlA) _ :: GG.Fact.lit (Rl := GG.RlA) _ :: GG.Fact.lit (Rl := GG.RlA) _ :: GG.Fact.lit (Rl := GG.RlA) _ :: GG.Fact.lit (Rl := GG.RlA) _ :: GG.Fact.lit (Rl := GG.RlA) _ :: GG.Fact.lit (Rl := GG.RlA) _ :: GG.Fact.prop (Rl := GG.RlA) _ _ :: GG.Fact.prop (Rl := GG.RlA) _ _ :: []) (by kernel_rfl) rfl (by kernel_rfl) (false) (SB0.out) ?seqtb
      case' seqtb => skip
      (refine' GG.grow_lit (GG.ApS.still (by decide)) rfl ?wttb0 ?runtb0 ?puttb0 ?nexttb0; (case wttb0 => rfl); (case runtb0 => (intro w' hS; (obtain ⟨dn, s, hS⟩ := hS); (have z0 := keep hS.b Z0.out); (have z1 := keep hS.b Z1.out); (have zl := World.block_lt_of_cell? _ _ z0); (obtain ⟨wx, wy, wx2, wy2⟩ := WX.out); clear hS; go_simp; first | done | exact rfl)); (case puttb0 => (first | (simp only [Act.put, List.setIfInBounds_toArray, List.set_cons_zero, List.set_cons_succ]; first | done | exact rfl) | rfl)); (case' nexttb0 => skip))
      (refine' GG.grow_lit (GG.ApS.still (by decide)) rfl ?wttb1 ?runtb1 ?puttb1 ?nexttb1; (case wttb1 => rfl); (case runtb1 => (intro w' hS; (obtain ⟨dn, s, hS⟩ := hS); (have z0 := keep hS.b Z0.out); (have z1 := keep hS.b Z1.out); (have zl := World.block_lt_of_cell? _ _ z0); (obtain ⟨wx, wy, wx2, wy2⟩ := WX.out); clear hS; go_simp; first | done | exact rfl)); (case puttb1 => (first | (simp only [Act.put, List.setIfInBounds_toArray, List.set_cons_zero, List.set_cons_succ]; first | done | exact rfl) | rfl)); (case' nexttb1 => skip))
      (refine' GG.grow_lit (GG.ApS.still (by decide)) rfl ?wttb2 ?runtb2 ?puttb2 ?nexttb2; (case wttb2 => rfl); (case runtb2 => (intro w' hS; (obtain ⟨dn, s, hS⟩ := hS); (have z0 := keep hS.b Z0.out); (have z1 := keep hS.b Z1.out); (have zl := World.block_lt_of_cell? _ _ z0); (obtain ⟨wx, wy, wx2, wy2⟩ := WX.out); clear hS; go_simp; first | done | exact rfl)); (case puttb2 => (first | (simp only [Act.put, List.setIfInBounds_toArray, List.set_cons_zero, List.set_cons_succ]; first | done | exact rfl) | rfl)); (case' nexttb2 => skip))
      (refine' GG.grow_lit (GG.ApS.still (by decide)) rfl ?wttb3 ?runtb3 ?puttb3 ?nexttb3; (case wttb3 => rfl); (case runtb3 => (intro w' hS; (obtain ⟨dn, s, hS⟩ := hS); (have z0 := keep hS.b Z0.out); (have z1 := keep hS.b Z1.out); (have zl := World.block_lt_of_cell? _ _ z0); (obtain ⟨wx, wy, wx2, wy2⟩ := WX.out); clear hS; go_simp; first | done | exact rfl)); (case puttb3 => (first | (simp only [Act.put, List.setIfInBounds_toArray, List.set_cons_zero, List.set_cons_succ]; first | done | exact rfl) | rfl)); (case' nexttb3 => skip))
      (refine' GG.grow_lit (GG.ApS.still (by decide)) rfl ?wttb4 ?runtb4 ?puttb4 ?nexttb4; (case wttb4 => rfl); (case runtb4 => (intro w' hS; (obtain ⟨dn, s, hS⟩ := hS); (have z0 := keep hS.b Z0.out); (have z1 := keep hS.b Z1.out); (have zl := World.block_lt_of_cell? _ _ z0); (obtain ⟨wx, wy, wx2, wy2⟩ := WX.out); clear hS; go_simp; first | done | exact rfl)); (case puttb4 => (first | (simp only [Act.put, List.setIfInBounds_toArray, List.set_cons_zero, List.set_cons_succ]; first | done | exact rfl) | rfl)); (case' nexttb4 => skip))
      (refine' GG.grow_lit (GG.ApS.still (by decide)) rfl ?wttb5 ?runtb5 ?puttb5 ?nexttb5; (case wttb5 => rfl); (case runtb5 => (intro w' hS; (obtain ⟨dn, s, hS⟩ := hS); (have z0 := keep hS.b Z0.out); (have z1 := keep hS.b Z1.out); (have zl := World.block_lt_of_cell? _ _ z0); (obtain ⟨wx, wy, wx2, wy2⟩ := WX.out); clear hS; go_simp; first | done | exact rfl)); (case puttb5 => (first | (simp only [Act.put, List.setIfInBounds_toArray, List.set_cons_zero, List.set_cons_succ]; first | done | exact rfl) | rfl)); (case' nexttb5 => skip))
      (refine' GG.grow_lit (GG.ApS.still (by decide)) rfl ?wttb6 ?runtb6 ?puttb6 ?nexttb6; (case wttb6 => rfl); (case runtb6 => (intro w' hS; (obtain ⟨dn, s, hS⟩ := hS); (have z0 := keep hS.b Z0.out); (have z1 := keep hS.b Z1.out); (have zl := World.block_lt_of_cell? _ _ z0); (obtain ⟨wx, wy, wx2, wy2⟩ := WX.out); clear hS; go_simp; first | done | exact rfl)); (case puttb6 => (first | (simp only [Act.put, List.setIfInBounds_toArray, List.set_cons_zero, List.set_cons_succ]; first | done | exact rfl) | rfl)); (case' nexttb6 => skip))
      (refine' GG.grow_lit (GG.ApS.still (by decide)) rfl ?wttb7 ?runtb7 ?puttb7 ?nexttb7; (case wttb7 => rfl); (case runtb7 => (intro w' hS; (obtain ⟨dn, s, hS⟩ := hS); (have z0 := keep hS.b Z0.out); (have z1 := keep hS.b Z1.out); (have zl := World.block_lt_of_cell? _ _ z0); (obtain ⟨wx, wy, wx2, wy2⟩ := WX.out); clear hS; go_simp; first | done | exact rfl)); (case puttb7 => (first | (simp only [Act.put, List.setIfInBounds_toArray, List.set_cons_zero, List.set_cons_succ]; first | done | exact rfl) | rfl)); (case' nexttb7 => skip))
      (refine' GG.grow_lit (GG.ApS.still (by decide)) rfl ?wttb8 ?runtb8 ?puttb8 ?nexttb8; (case wttb8 => rfl); (case runtb8 => (intro w' hS; (obtain ⟨dn, s, hS⟩ := hS); (have z0 := keep hS.b Z0.out); (have z1 := keep hS.b Z1.out); (have zl := World.block_lt_of_cell? _ _ z0); (obtain ⟨wx, wy, wx2, wy2⟩ := WX.out); clear hS; go_simp; first | done | exact rfl)); (case puttb8 => (first | (simp only [Act.put, List.setIfInBounds_toArray, List.set_cons_zero, List.set_cons_succ]; first | done | exact rfl) | rfl)); (case' nexttb8 => skip))
      (refine' GG.grow_lit (GG.ApS.still (by decide)) rfl ?wttb9 ?runtb9 ?puttb9 ?nexttb9; (case wttb9 => rfl); (case runtb9 => (intro w' hS; (obtain ⟨dn, s, hS⟩ := hS); (have z0 := keep hS.b Z0.out); (have z1 := keep hS.b Z1.out); (have zl := World.block_lt_of_cell? _ _ z0); (obtain ⟨wx, wy, wx2, wy2⟩ := WX.out); clear hS; go_simp; first | done | exact rfl)); (case puttb9 => (first | (simp only [Act.put, List.setIfInBounds_toArray, List.set_cons_zero, List.set_cons_succ]; first | done | exact rfl) | rfl)); (case' nexttb9 => skip))
      (refine' GG.grow_lit (GG.ApS.still (by decide)) rfl ?wttb10 ?runtb10 ?puttb10 ?nexttb10; (case wttb10 => rfl); (case runtb10 => (intro w' hS; (obtain ⟨dn, s, hS⟩ := hS); (have z0 := keep hS.b Z0.out); (have z1 := keep hS.b Z1.out); (have zl := World.block_lt_of_cell? _ _ z0); (obtain ⟨wx, wy, wx2, wy2⟩ := WX.out); clear hS; go_simp; first | done | exact rfl)); (case puttb10 => (first | (simp only [Act.put, List.setIfInBounds_toArray, List.set_cons_zero, List.set_cons_succ]; first | done | exact rfl) | rfl)); (case' nexttb10 => skip))
      (refine' GG.grow_lit (GG.ApS.still (by decide)) rfl ?wttb11 ?runtb11 ?puttb11 ?nexttb11; (case wttb11 => rfl); (case runtb11 => (intro w' hS; (obtain ⟨dn, s, hS⟩ := hS); (have z0 := keep hS.b Z0.out); (have z1 := keep hS.b Z1.out); (have zl := World.block_lt_of_cell? _ _ z0); (obtain ⟨wx, wy, wx2, wy2⟩ := WX.out); clear hS; go_simp; first | done | exact rfl)); (case puttb11 => (first | (simp only [Act.put, List.setIfInBounds_toArray, List.set_cons_zero, List.set_cons_succ]; first | done | exact rfl) | rfl)); (case' nexttb11 => skip))
      (refine' GG.grow_lit (GG.ApS.still (by decide)) rfl ?wttb12 ?runtb12 ?puttb12 ?nexttb12; (case wttb12 => rfl); (case runtb12 => (intro w' hS; (obtain ⟨dn, s, hS⟩ := hS); (have z0 := keep hS.b Z0.out); (have z1 := keep hS.b Z1.out); (have zl := World.block_lt_of_cell? _ _ z0); (obtain ⟨wx, wy, wx2, wy2⟩ := WX.out); clear hS; go_simp; first | done | exact rfl)); (case puttb12 => (first | (simp only [Act.put, List.setIfInBounds_toArray, List.set_cons_zero, List.set_cons_succ]; first | done | exact rfl) | rfl)); (case' nexttb12 => skip))
      (refine' GG.grow_lit (GG.ApS.still (by decide)) rfl ?wttb13 ?runtb13 ?puttb13 ?nexttb13; (case wttb13 => rfl); (case runtb13 => (intro w' hS; (obtain ⟨dn, s, hS⟩ := hS); (have z0 := keep hS.b Z0.out); (have z1 := keep hS.b Z1.out); (have zl := World.block_lt_of_cell? _ _ z0); (obtain ⟨wx, wy, wx2, wy2⟩ := WX.out); clear hS; go_simp; first | done | exact rfl)); (case puttb13 => (first | (simp only [Act.put, List.setIfInBounds_toArray, List.set_cons_zero, List.set_cons_succ]; first | done | exact rfl) | rfl)); (case' nexttb13 => skip))
      (refine' GG.grow_any_op (p := GG.LitP #[.int .i64 (0 - x), .int .i64 (0 - y)]) (hp := GG.LitP.st #[.int .i64 (0 - x), .int .i64 (0 - y)]) rfl ?wttb14 ?runtb14 ?puttb14 ?nexttb14; (case wttb14 => rfl); (case runtb14 => (intro dn s w' hS hd H; (refine ⟨.slice (some ⟨w'.heap.size, 0, none⟩) 1 1, s, w'.alloc (.cells #[.int .i64 (0 - x), .int .i64 (0 - y)] 30), ?_, fun _ => ⟨w'.heap.size, rfl, Blk.new _ _ _ _ rfl⟩, (hS.step (by decide)).old PT.stab (below_alloc1 _), ⟨id, fun _ => below_alloc1 _⟩, (below_alloc1 _).size⟩; clear hS hd H; go_simp))); (case puttb14 => (intro v; (simp only [Act.put, List.setIfInBounds_toArray, List.set_cons_zero, List.set_cons_succ]; first | done | exact rfl))); (case' nexttb14 => intro v14))
      (refine' GG.grow_any_op (p := GG.ApT (fun v w => PT w1 ((mirL (l.take k)) ++ [(y, x)]) u7 ((minL (l.take k)) ++ [(0 - x, 0 - y)]) v w)) (hp := GG.ApT.st (fun _ => PT.stab)) rfl ?wttb15 ?runtb15 ?puttb15 ?nexttb15; (case wttb15 => rfl); (case runtb15 => (intro dn s w' hS hd H; (obtain rfl : s = false := hS.here.symm.trans hd); (obtain ⟨g, e9, kg⟩ := (show GG.LitP #[.int .i64 (0 - x), .int .i64 (0 - y)] v14 false w' from H 14 (by decide)) rfl); (obtain ⟨q', n', c', w7, hr, hP, hz⟩ := (hS.r rfl).symm.app kg HL1.out.2); subst e9; exact ⟨_, true, w7, GG.exec_append (.tmp 35) (.tmp 49) 22 rfl rfl rfl hr, ⟨rfl, ⟨_, _, _, rfl⟩, hP.symm⟩, ⟨rfl, (fun h => by cases h), hP.b⟩, ⟨fun _ => rfl, fun h => by cases h⟩, hz⟩)); (case puttb15 => (intro v; (simp only [Act.put, List.setIfInBounds_toArray, List.set_cons_zero, List.set_cons_succ]; first | done | exact rfl))); (case' nexttb15 => intro v15))
      intro dn s w8 hS8 _ hk8
      obtain ⟨-, ⟨qy, ny, cy, rfl⟩, hP⟩ : GG.ApT (fun v w => PT w1 ((mirL (l.take k)) ++ [(y, x)]) u7 ((minL (l.take k)) ++ [(0 - x, 0 - y)]) v w) v15 s w8 := hk8 15 (by decide)
      have HP8 := Lib.hid hP
      clear hk8 hS8 hP SB0 HP
      refine wpAny_ready (rs := [16]) (by kernel_rfl) (by simp) (AllReady.cons rfl (fun K hK => ?_) AllReady.nil)
      go_simp
      refine hK _ _ ?_
      clear hK K
      refine wpAny_done (by kernel_rfl) ?_ _
      go_wp2_with fail
      go_roundw
      case rel => exact ⟨k + 1, hlt, by go_num, by rw [HM1.out, HM2.out]; exact HP8.out⟩
      case measure => simp [intOf]; omega
    · obtain rfl : k = l.length := by omega
      rw [List.take_length] at hm
      obtain ⟨mq, mc, rfl⟩ := hm.shape1 (mirL_len l)
      obtain ⟨nq, nc, rfl⟩ := hm.symm.shape1 (minL_len l)
      have HMI := Lib.hid (prs_of_owns hm.r1 (by rw [mirL_len]; have := HLE.out; omega))
      have HNI := Lib.hid (prs_of_owns hm.r2 (by rw [minL_len]; have := HLE.out; omega))
      have hb := hm.b
      have HSA := Lib.hid (mirL_small HSM.out)
      have HSB := Lib.hid (minL_small HSM.out)
      clear HM hm hlt hk
      have HB_ := Lib.hid (bOn6 HB.out hb)
      have HE_ := Lib.hid (HE.out.below hb)
      clear HB HE
      have HB := HB_
      have HE := HE_
      clear HB_ HE_
      clear hb
      go_wp2_with fail
      obtain ⟨w3, rfl⟩ : ∃ x, x = wr := ⟨_, rfl⟩
      go_loopw [6, 7, 8, 9] (fun dv _ _ _ wx => DRel w3 4 dv wx) (fun dv _ _ _ _ => 4 - (intOf dv).toNat)
      case atStart => exact ⟨0, by decide, rfl, Below.refl _ _⟩
      case round =>
        obtain ⟨d, hd, rfl, hb⟩ := hrel
        have HB_ := Lib.hid (bOn6 HB.out hb)
        have HE_ := Lib.hid (HE.out.below hb)
        have HMI_ := Lib.hid (HMI.out.below hb)
        have HNI_ := Lib.hid (HNI.out.below hb)
        clear HB HE HMI HNI
        have HB := HB_
        have HE := HE_
        have HMI := HMI_
        have HNI := HNI_
        clear HB_ HE_ HMI_ HNI_
        have HDB := Lib.hid hb
        clear hb
        by_cases hlt : d < 4
        case neg =>
          obtain rfl : d = 4 := by omega
          clear hlt hd
          go_wp2_with fail
          refine (order_at HMI.out HSA.out (mirL_len l) (by have := HLE.out; omega)).mono ?_
          rintro e wa1 ⟨ga1, oa1, rfl, ho, hk, hb⟩
          have HOa1 := Lib.hid ho
          have HKa1 := Lib.hid hk
          clear ho hk
          have HB_ := Lib.hid (bOn6 HB.out hb)
          have HE_ := Lib.hid (HE.out.below hb)
          have HMI_ := Lib.hid (HMI.out.below hb)
          have HNI_ := Lib.hid (HNI.out.below hb)
          have HDB_ := Lib.hid (bOn6 HDB.out hb)
          clear HB HE HMI HNI HDB
          have HB := HB_
          have HE := HE_
          have HMI := HMI_
          have HNI := HNI_
          have HDB := HDB_
          clear HB_ HE_ HMI_ HNI_ HDB_
          clear hb
          go_wp2_with fail
          refine (order_at HE.out HSM.out rfl (by have := HLE.out; omega)).mono ?_
          rintro e wb1 ⟨gb1, ob1, rfl, ho, hk, hb⟩
          have HOb1 := Lib.hid ho
          have HKb1 := Lib.hid hk
          clear ho hk
          have HB_ := Lib.hid (bOn6 HB.out hb)
          have HE_ := Lib.hid (HE.out.below hb)
          have HMI_ := Lib.hid (HMI.out.below hb)
          have HNI_ := Lib.hid (HNI.out.below hb)
          have HDB_ := Lib.hid (bOn6 HDB.out hb)
          have HKa1_ := Lib.hid (HKa1.out.below hb)
          clear HB HE HMI HNI HDB HKa1
          have HB := HB_
          have HE := HE_
          have HMI := HMI_
          have HNI := HNI_
          have HDB := HDB_
          have HKa1 := HKa1_
          clear HB_ HE_ HMI_ HNI_ HDB_ HKa1_
          clear hb
          go_wp2_with fail
          obtain rfl := ord_mirror HOb1.out HOa1.out rfl (Or.inl ⟨rfl, rfl⟩)
          refine (same_is HKa1.out HKb1.out rfl).mono ?_
          rintro e wc1 ⟨rfl, hb⟩
          have HB_ := Lib.hid (bOn6 HB.out hb)
          have HE_ := Lib.hid (HE.out.below hb)
          have HMI_ := Lib.hid (HMI.out.below hb)
          have HNI_ := Lib.hid (HNI.out.below hb)
          have HDB_ := Lib.hid (bOn6 HDB.out hb)
          have HKa1_ := Lib.hid (HKa1.out.below hb)
          have HKb1_ := Lib.hid (HKb1.out.below hb)
          clear HB HE HMI HNI HDB HKa1 HKb1
          have HB := HB_
          have HE := HE_
          have HMI := HMI_
          have HNI := HNI_
          have HDB := HDB_
          have HKa1 := HKa1_
          have HKb1 := HKb1_
          clear HB_ HE_ HMI_ HNI_ HDB_ HKa1_ HKb1_
          clear hb
          clear HKa1 HKb1
          go_wp2_with fail
          refine (order_at HMI.out HSA.out (mirL_len l) (by have := HLE.out; omega)).mono ?_
          rintro e wa2 ⟨ga2, oa2, rfl, ho, hk, hb⟩
          have HOa2 := Lib.hid ho
          have HKa2 := Lib.hid hk
          clear ho hk
          have HB_ := Lib.hid (bOn6 HB.out hb)
          have HE_ := Lib.hid (HE.out.below hb)
          have HMI_ := Lib.hid (HMI.out.below hb)
          have HNI_ := Lib.hid (HNI.out.below hb)
          have HDB_ := Lib.hid (bOn6 HDB.out hb)
          clear HB HE HMI HNI HDB
          have HB := HB_
          have HE := HE_
          have HMI := HMI_
          have HNI := HNI_
          have HDB := HDB_
          clear HB_ HE_ HMI_ HNI_ HDB_
          clear hb
          go_wp2_with fail
          refine (order_at HE.out HSM.out rfl (by have := HLE.out; omega)).mono ?_
          rintro e wb2 ⟨gb2, ob2, rfl, ho, hk, hb⟩
          have HOb2 := Lib.hid ho
          have HKb2 := Lib.hid hk
          clear ho hk
          have HB_ := Lib.hid (bOn6 HB.out hb)
          have HE_ := Lib.hid (HE.out.below hb)
          have HMI_ := Lib.hid (HMI.out.below hb)
          have HNI_ := Lib.hid (HNI.out.below hb)
          have HDB_ := Lib.hid (bOn6 HDB.out hb)
          have HKa2_ := Lib.hid (HKa2.out.below hb)
          clear HB HE HMI HNI HDB HKa2
          have HB := HB_
          have HE := HE_
          have HMI := HMI_
          have HNI := HNI_
          have HDB := HDB_
          have HKa2 := HKa2_
          clear HB_ HE_ HMI_ HNI_ HDB_ HKa2_
          clear hb
          go_wp2_with fail
          obtain rfl := ord_mirror HOb2.out HOa2.out rfl (Or.inr (Or.inl ⟨rfl, rfl⟩))
          refine (same_is HKa2.out HKb2.out rfl).mono ?_
          rintro e wc2 ⟨rfl, hb⟩
          have HB_ := Lib.hid (bOn6 HB.out hb)
          have HE_ := Lib.hid (HE.out.below hb)
          have HMI_ := Lib.hid (HMI.out.below hb)
          have HNI_ := Lib.hid (HNI.out.below hb)
          have HDB_ := Lib.hid (bOn6 HDB.out hb)
          have HKa2_ := Lib.hid (HKa2.out.below hb)
          have HKb2_ := Lib.hid (HKb2.out.below hb)
          clear HB HE HMI HNI HDB HKa2 HKb2
          have HB := HB_
          have HE := HE_
          have HMI := HMI_
          have HNI := HNI_
          have HDB := HDB_
          have HKa2 := HKa2_
          have HKb2 := HKb2_
          clear HB_ HE_ HMI_ HNI_ HDB_ HKa2_ HKb2_
          clear hb
          clear HKa2 HKb2
          go_wp2_with fail
          refine (order_at HMI.out HSA.out (mirL_len l) (by have := HLE.out; omega)).mono ?_
          rintro e wa3 ⟨ga3, oa3, rfl, ho, hk, hb⟩
          have HOa3 := Lib.hid ho
          have HKa3 := Lib.hid hk
          clear ho hk
          have HB_ := Lib.hid (bOn6 HB.out hb)
          have HE_ := Lib.hid (HE.out.below hb)
          have HMI_ := Lib.hid (HMI.out.below hb)
          have HNI_ := Lib.hid (HNI.out.below hb)
          have HDB_ := Lib.hid (bOn6 HDB.out hb)
          clear HB HE HMI HNI HDB
          have HB := HB_
          have HE := HE_
          have HMI := HMI_
          have HNI := HNI_
          have HDB := HDB_
          clear HB_ HE_ HMI_ HNI_ HDB_
          clear hb
          go_wp2_with fail
          refine (order_at HE.out HSM.out rfl (by have := HLE.out; omega)).mono ?_
          rintro e wb3 ⟨gb3, ob3, rfl, ho, hk, hb⟩
          have HOb3 := Lib.hid ho
          have HKb3 := Lib.hid hk
          clear ho hk
          have HB_ := Lib.hid (bOn6 HB.out hb)
          have HE_ := Lib.hid (HE.out.below hb)
          have HMI_ := Lib.hid (HMI.out.below hb)
          have HNI_ := Lib.hid (HNI.out.below hb)
          have HDB_ := Lib.hid (bOn6 HDB.out hb)
          have HKa3_ := Lib.hid (HKa3.out.below hb)
          clear HB HE HMI HNI HDB HKa3
          have HB := HB_
          have HE := HE_
          have HMI := HMI_
          have HNI := HNI_
          have HDB := HDB_
          have HKa3 := HKa3_
          clear HB_ HE_ HMI_ HNI_ HDB_ HKa3_
          clear hb
          go_wp2_with fail
          obtain rfl := ord_mirror HOb3.out HOa3.out rfl (Or.inr (Or.inr ⟨rfl, rfl⟩))
          refine (same_is HKa3.out HKb3.out rfl).mono ?_
          rintro e wc3 ⟨rfl, hb⟩
          have HB_ := Lib.hid (bOn6 HB.out hb)
          have HE_ := Lib.hid (HE.out.below hb)
          have HMI_ := Lib.hid (HMI.out.below hb)
          have HNI_ := Lib.hid (HNI.out.below hb)
          have HDB_ := Lib.hid (bOn6 HDB.out hb)
          have HKa3_ := Lib.hid (HKa3.out.below hb)
          have HKb3_ := Lib.hid (HKb3.out.below hb)
          clear HB HE HMI HNI HDB HKa3 HKb3
          have HB := HB_
          have HE := HE_
          have HMI := HMI_
          have HNI := HNI_
          have HDB := HDB_
          have HKa3 := HKa3_
          have HKb3 := HKb3_
          clear HB_ HE_ HMI_ HNI_ HDB_ HKa3_ HKb3_
          clear hb
          clear HKa3 HKb3
          go_wp2_with fail
          go_ret
          exact ⟨rfl, HB.out⟩
        have hdi : (d : Int) < 4 := by omega
        go_wp2_with fail
        refine (order_at HE.out HSM.out rfl (by have := HLE.out; omega)).mono ?_
        rintro e w4 ⟨gp, op, rfl, ho, hk, hb⟩
        have HOp := Lib.hid ho
        have HKp := Lib.hid hk
        clear ho hk
        have HB_ := Lib.hid (bOn6 HB.out hb)
        have HE_ := Lib.hid (HE.out.below hb)
        have HMI_ := Lib.hid (HMI.out.below hb)
        have HNI_ := Lib.hid (HNI.out.below hb)
        have HDB_ := Lib.hid (bOn6 HDB.out hb)
        clear HB HE HMI HNI HDB
        have HB := HB_
        have HE := HE_
        have HMI := HMI_
        have HNI := HNI_
        have HDB := HDB_
        clear HB_ HE_ HMI_ HNI_ HDB_
        clear hb
        go_wp2_with fail
        refine (order_at HNI.out HSB.out (minL_len l) (by have := HLE.out; omega)).mono ?_
        rintro e w5 ⟨gq, oq, rfl, ho, hk, hb⟩
        have HOq := Lib.hid ho
        have HKq := Lib.hid hk
        clear ho hk
        have HB_ := Lib.hid (bOn6 HB.out hb)
        have HE_ := Lib.hid (HE.out.below hb)
        have HMI_ := Lib.hid (HMI.out.below hb)
        have HNI_ := Lib.hid (HNI.out.below hb)
        have HDB_ := Lib.hid (bOn6 HDB.out hb)
        have HKp_ := Lib.hid (HKp.out.below hb)
        clear HB HE HMI HNI HDB HKp
        have HB := HB_
        have HE := HE_
        have HMI := HMI_
        have HNI := HNI_
        have HDB := HDB_
        have HKp := HKp_
        clear HB_ HE_ HMI_ HNI_ HDB_ HKp_
        clear hb
        go_wp2_with fail
        go_wp2_with fail
        go_loopw [9] (fun iv wr => DRel w5 l.length iv wr) (fun iv _ => l.length - (intOf iv).toNat)
        case atStart => exact ⟨0, Nat.zero_le _, rfl, Below.refl _ _⟩
        case round =>
          obtain ⟨i, hi, rfl, hb⟩ := hrel
          have HB_ := Lib.hid (bOn6 HB.out hb)
          have HE_ := Lib.hid (HE.out.below hb)
          have HMI_ := Lib.hid (HMI.out.below hb)
          have HNI_ := Lib.hid (HNI.out.below hb)
          have HDB_ := Lib.hid (bOn6 HDB.out hb)
          have HKp_ := Lib.hid (HKp.out.below hb)
          have HKq_ := Lib.hid (HKq.out.below hb)
          clear HB HE HMI HNI HDB HKp HKq
          have HB := HB_
          have HE := HE_
          have HMI := HMI_
          have HNI := HNI_
          have HDB := HDB_
          have HKp := HKp_
          have HKq := HKq_
          clear HB_ HE_ HMI_ HNI_ HDB_ HKp_ HKq_
          have HIB := Lib.hid hb
          clear hb
          by_cases hlt2 : i < l.length
          case neg =>
            obtain rfl : i = l.length := by omega
            clear hlt2 hi
            go_wp2_with fail
            go_roundw
            case rel => exact ⟨d + 1, hlt, by go_num, HDB.out⟩
            case measure => simp [intOf]; omega
          obtain ⟨A, hA, hAn⟩ := HOp.out.some hlt2
          obtain ⟨B, hB, hBn⟩ := HOq.out.some (i := l.length - 1 - i) (by rw [minL_len]; omega)
          rw [minL_len] at hBn
          have hky := minus_keys HOp.out HOq.out hlt2 hA hB
          obtain ⟨⟨xa, ya⟩, hxa⟩ : ∃ e, l[A]? = some e := ⟨_, List.getElem?_eq_getElem hAn⟩
          obtain ⟨⟨xb, yb⟩, hxb⟩ : ∃ e, (minL l)[B]? = some e := ⟨_, List.getElem?_eq_getElem (by rw [minL_len]; exact hBn)⟩
          rw [kAt_of hxa, kAt_of hxb] at hky
          obtain ⟨ka, hka⟩ : ∃ ka, keyL (xa, ya) d = ka := ⟨_, rfl⟩
          obtain ⟨kb, hkb⟩ : ∃ kb, keyL (xb, yb) d = kb := ⟨_, rfl⟩
          rw [hka, hkb] at hky
          have HKA := Lib.hid hka
          have HKB := Lib.hid hkb
          have SA := Lib.hid (HSM.out _ (List.mem_of_getElem? hxa))
          have SB := Lib.hid (HSB.out _ (List.mem_of_getElem? hxb))
          have hkr := key_small SB.out hkb
          have wkb : IntKind.i64.wrap (0 - kb) = 0 - kb := IntWalk.i64_in _ (by omega)
          have wkb2 : IntKind.i64.wrap (-kb) = -kb := IntWalk.i64_in _ (by omega)
          have hne : (ka != 0 - kb) = false := by rw [hky]; simp
          have hne2 : (ka != -kb) = false := by rw [hky]; simp
          have WK : Hid ((IntKind.i64.wrap (0 - kb) = 0 - kb ∧ IntKind.i64.wrap (-kb) = -kb) ∧ (ka != 0 - kb) = false ∧ (ka != -kb) = false) := Lib.hid ⟨⟨wkb, wkb2⟩, hne, hne2⟩
          obtain ⟨J, hJ⟩ : ∃ J, l.length - 1 - i = J := ⟨_, rfl⟩
          rw [hJ] at hB
          have hl9 := HLE.out
          have wj1 : IntKind.i64.wrap ((l.length : Int) - 1) = (l.length : Int) - 1 := IntWalk.i64_in _ (by omega)
          have wj2 : IntKind.i64.wrap ((l.length : Int) - 1 - (i : Int)) = (J : Int) := by
            rw [show (l.length : Int) - 1 - (i : Int) = (J : Int) from by omega]
            exact IntWalk.i64_in _ (by omega)
          have hai : (A : Int) < (l.length : Int) := by omega
          have hbi : (B : Int) < (l.length : Int) := by omega
          have hii : (i : Int) < (l.length : Int) := by omega
          have hji : (J : Int) < (l.length : Int) := by omega
          have hjn : J < l.length := by omega
          obtain ⟨b1, s1, e1, pc, pl⟩ := HKp.out.atZ hA
          injection e1 with e1
          injection e1 with e1 e2
          subst e1 e2
          obtain ⟨b2, s2, e1, qc, ql⟩ := HKq.out.atZ hB
          injection e1 with e1
          injection e1 with e1 e2
          subst e1 e2
          rw [Nat.zero_add] at pc qc
          obtain ⟨eb, eo, rfl, a0, a1, al⟩ := HE.out.atP hxa
          obtain ⟨nb, no, rfl, b0, b1, bl⟩ := HNI.out.atP hxb
          have PC := Lib.hid pc
          have QC := Lib.hid qc
          have A0 := Lib.hid a0
          have A1 := Lib.hid a1
          have B0 := Lib.hid b0
          have B1 := Lib.hid b1
          have hwi : IntKind.i64.wrap ((i : Int) + 1) = (i : Int) + 1 := IntWalk.i64_in _ (by omega)
          have DS0 : Hid (GG.BelL wr (fun _ => false) () wr.drew) := Lib.hid ⟨(Below.refl _ _).drew⟩
          clear hky hka hkb hkr wkb wkb2 hne hne2 hJ pc pl qc ql a0 a1 al b0 b1 bl hxa hxb hA hB
          go_wp2_with fail
          refine' GG.wp_growL _ (GG.BelL wr) [[], [], [], [1, 2], [1, 2, 3], [0, 1, 2, 3, 4], [0, 1, 2, 3, 4, 5], [], [0, 1, 2, 3, 4, 5, 6, 7], [], [], [], [11], [11, 12], [], [11, 12, 13, 14], [10, 11, 12, 13, 14, 15], [10, 11, 12, 13, 14, 15, 16], [9, 10, 11, 12, 13, 14, 15, 16, 17], [9, 10, 11, 12, 13, 14, 15, 16, 17, 18], [], [0, 1, 2, 3, 4, 5, 6, 7, 8, 9, 10, 11, 12, 13, 14, 15, 16, 17, 18, 19, 20], [0, 1, 2, 3, 4, 5, 6, 7, 8, 9, 10, 11, 12, 13, 14, 15, 16, 17, 18, 19, 20, 21], [0, 1, 2, 3, 4, 5, 6, 7, 8, 9, 10, 11, 12, 13, 14, 15, 16, 17, 18, 19, 20, 21, 22]] (GG.Fact.lit (Rl := GG.RlL) _ :: GG.Fact.lit (Rl := GG.RlL) _ :: GG.Fact.lit (Rl := GG.RlL) _ :: GG.Fact.lit (Rl := GG.RlL) _ :: GG.Fact.lit (Rl := GG.RlL) _ :: GG.Fact.lit (Rl := GG.RlL) _ :: GG.Fact.lit (Rl := GG.RlL) _ :: GG.Fact.lit (Rl := GG.RlL) _ :: GG.Fact.lit (Rl := GG.RlL) _ :: GG.Fact.lit (Rl := GG.RlL) _ :: GG.Fact.lit (Rl := GG.RlL) _ :: GG.Fact.lit (Rl := GG.RlL) _ :: GG.Fact.lit (Rl := GG.RlL) _ :: GG.Fact.lit (Rl := GG.RlL) _ :: GG.Fact.lit (Rl := GG.RlL) _ :: GG.Fact.lit (Rl := GG.RlL) _ :: GG.Fact.lit (Rl := GG.RlL) _ :: GG.Fact.lit (Rl := GG.RlL) _ :: GG.Fact.lit (Rl := GG.RlL) _ :: GG.Fact.lit (Rl := GG.RlL) _ :: GG.Fact.lit (Rl := GG.RlL) _ :: GG.Fact.lit (Rl := GG.RlL) _ :: GG.Fact.lit (Rl := GG.RlL) _ :: GG.Fact.lit (Rl := GG.RlL) _ :: []) (by kernel_rfl) rfl (by kernel_rfl) (()) (DS0.out) ?seqti
          case' seqti => skip
          (refine' GG.grow_lit (GG.BelL.still) rfl ?wtti0 ?runti0 ?putti0 ?nextti0; (case wtti0 => rfl); (case runti0 => (intro w' hS; (obtain ⟨dn, s, hS⟩ := hS); (have pc := keep hS.b PC.out); (have pl := World.block_lt_of_cell? _ _ pc); (have qc := keep hS.b QC.out); (have ql := World.block_lt_of_cell? _ _ qc); (have a0 := keep hS.b A0.out); (have al := World.block_lt_of_cell? _ _ a0); (have a1 := keep hS.b A1.out); (have b0 := keep hS.b B0.out); (have bl := World.block_lt_of_cell? _ _ b0); (have b1 := keep hS.b B1.out); (obtain ⟨⟨wkb, wkb2⟩, hne, hne2⟩ := WK.out); clear hS; go_simp; first | done | exact rfl)); (case putti0 => (first | (simp only [Act.put, List.setIfInBounds_toArray, List.set_cons_zero, List.set_cons_succ]; first | done | exact rfl) | rfl)); (case' nextti0 => skip))
          (refine' GG.grow_lit (GG.BelL.still) rfl ?wtti1 ?runti1 ?putti1 ?nextti1; (case wtti1 => rfl); (case runti1 => (intro w' hS; (obtain ⟨dn, s, hS⟩ := hS); (have pc := keep hS.b PC.out); (have pl := World.block_lt_of_cell? _ _ pc); (have qc := keep hS.b QC.out); (have ql := World.block_lt_of_cell? _ _ qc); (have a0 := keep hS.b A0.out); (have al := World.block_lt_of_cell? _ _ a0); (have a1 := keep hS.b A1.out); (have b0 := keep hS.b B0.out); (have bl := World.block_lt_of_cell? _ _ b0); (have b1 := keep hS.b B1.out); (obtain ⟨⟨wkb, wkb2⟩, hne, hne2⟩ := WK.out); clear hS; go_simp; first | done | exact rfl)); (case putti1 => (first | (simp only [Act.put, List.setIfInBounds_toArray, List.set_cons_zero, List.set_cons_succ]; first | done | exact rfl) | rfl)); (case' nextti1 => skip))
          (refine' GG.grow_lit (GG.BelL.still) rfl ?wtti2 ?runti2 ?putti2 ?nextti2; (case wtti2 => rfl); (case runti2 => (intro w' hS; (obtain ⟨dn, s, hS⟩ := hS); (have pc := keep hS.b PC.out); (have pl := World.block_lt_of_cell? _ _ pc); (have qc := keep hS.b QC.out); (have ql := World.block_lt_of_cell? _ _ qc); (have a0 := keep hS.b A0.out); (have al := World.block_lt_of_cell? _ _ a0); (have a1 := keep hS.b A1.out); (have b0 := keep hS.b B0.out); (have bl := World.block_lt_of_cell? _ _ b0); (have b1 := keep hS.b B1.out); (obtain ⟨⟨wkb, wkb2⟩, hne, hne2⟩ := WK.out); clear hS; go_simp; first | done | exact rfl)); (case putti2 => (first | (simp only [Act.put, List.setIfInBounds_toArray, List.set_cons_zero, List.set_cons_succ]; first | done | exact rfl) | rfl)); (case' nextti2 => skip))
          (refine' GG.grow_lit (GG.BelL.still) rfl ?wtti3 ?runti3 ?putti3 ?nextti3; (case wtti3 => rfl); (case runti3 => (intro w' hS; (obtain ⟨dn, s, hS⟩ := hS); (have pc := keep hS.b PC.out); (have pl := World.block_lt_of_cell? _ _ pc); (have qc := keep hS.b QC.out); (have ql := World.block_lt_of_cell? _ _ qc); (have a0 := keep hS.b A0.out); (have al := World.block_lt_of_cell? _ _ a0); (have a1 := keep hS.b A1.out); (have b0 := keep hS.b B0.out); (have bl := World.block_lt_of_cell? _ _ b0); (have b1 := keep hS.b B1.out); (obtain ⟨⟨wkb, wkb2⟩, hne, hne2⟩ := WK.out); clear hS; go_simp; first | done | exact rfl)); (case putti3 => (first | (simp only [Act.put, List.setIfInBounds_toArray, List.set_cons_zero, List.set_cons_succ]; first | done | exact rfl) | rfl)); (case' nextti3 => skip))
          (refine' GG.grow_lit (GG.BelL.still) rfl ?wtti4 ?runti4 ?putti4 ?nextti4; (case wtti4 => rfl); (case runti4 => (intro w' hS; (obtain ⟨dn, s, hS⟩ := hS); (have pc := keep hS.b PC.out); (have pl := World.block_lt_of_cell? _ _ pc); (have qc := keep hS.b QC.out); (have ql := World.block_lt_of_cell? _ _ qc); (have a0 := keep hS.b A0.out); (have al := World.block_lt_of_cell? _ _ a0); (have a1 := keep hS.b A1.out); (have b0 := keep hS.b B0.out); (have bl := World.block_lt_of_cell? _ _ b0); (have b1 := keep hS.b B1.out); (obtain ⟨⟨wkb, wkb2⟩, hne, hne2⟩ := WK.out); clear hS; go_simp; first | done | exact rfl)); (case putti4 => (first | (simp only [Act.put, List.setIfInBounds_toArray, List.set_cons_zero, List.set_cons_succ]; first | done | exact rfl) | rfl)); (case' nextti4 => skip))
          (refine' GG.grow_lit (GG.BelL.still) rfl ?wtti5 ?runti5 ?putti5 ?nextti5; (case wtti5 => rfl); (case runti5 => (intro w' hS; (obtain ⟨dn, s, hS⟩ := hS); (have pc := keep hS.b PC.out); (have pl := World.block_lt_of_cell? _ _ pc); (have qc := keep hS.b QC.out); (have ql := World.block_lt_of_cell? _ _ qc); (have a0 := keep hS.b A0.out); (have al := World.block_lt_of_cell? _ _ a0); (have a1 := keep hS.b A1.out); (have b0 := keep hS.b B0.out); (have bl := World.block_lt_of_cell? _ _ b0); (have b1 := keep hS.b B1.out); (obtain ⟨⟨wkb, wkb2⟩, hne, hne2⟩ := WK.out); clear hS; go_simp; first | done | exact rfl)); (case putti5 => (first | (simp only [Act.put, List.setIfInBounds_toArray, List.set_cons_zero, List.set_cons_succ]; first | done | exact rfl) | rfl)); (case' nextti5 => skip))
          (refine' GG.grow_lit (GG.BelL.still) rfl ?wtti6 ?runti6 ?putti6 ?nextti6; (case wtti6 => rfl); (case runti6 => (intro w' hS; (obtain ⟨dn, s, hS⟩ := hS); (have pc := keep hS.b PC.out); (have pl := World.block_lt_of_cell? _ _ pc); (have qc := keep hS.b QC.out); (have ql := World.block_lt_of_cell? _ _ qc); (have a0 := keep hS.b A0.out); (have al := World.block_lt_of_cell? _ _ a0); (have a1 := keep hS.b A1.out); (have b0 := keep hS.b B0.out); (have bl := World.block_lt_of_cell? _ _ b0); (have b1 := keep hS.b B1.out); (obtain ⟨⟨wkb, wkb2⟩, hne, hne2⟩ := WK.out); clear hS; go_simp; first | done | exact rfl)); (case putti6 => (first | (simp only [Act.put, List.setIfInBounds_toArray, List.set_cons_zero, List.set_cons_succ]; first | done | exact rfl) | rfl)); (case' nextti6 => skip))
          (refine' GG.grow_lit (GG.BelL.still) rfl ?wtti7 ?runti7 ?putti7 ?nextti7; (case wtti7 => rfl); (case runti7 => (intro w' hS; (obtain ⟨dn, s, hS⟩ := hS); (have pc := keep hS.b PC.out); (have pl := World.block_lt_of_cell? _ _ pc); (have qc := keep hS.b QC.out); (have ql := World.block_lt_of_cell? _ _ qc); (have a0 := keep hS.b A0.out); (have al := World.block_lt_of_cell? _ _ a0); (have a1 := keep hS.b A1.out); (have b0 := keep hS.b B0.out); (have bl := World.block_lt_of_cell? _ _ b0); (have b1 := keep hS.b B1.out); (obtain ⟨⟨wkb, wkb2⟩, hne, hne2⟩ := WK.out); clear hS; go_simp; first | done | exact rfl)); (case putti7 => (first | (simp only [Act.put, List.setIfInBounds_toArray, List.set_cons_zero, List.set_cons_succ]; first | done | exact rfl) | rfl)); (case' nextti7 => skip))
          (refine' GG.grow_lit_call (u := .int .i64 ka) rfl Try.func10 (by kernel_rfl) rfl rfl ?wtti8 ?runti8 ?putti8 ?nextti8; (case wtti8 => rfl); (case runti8 => (intro dn s w' hS hd H; exact (key_is xa ya d w' SA.out HKA.out).mono (fun e w2 h => ⟨(), h.1, ⟨hS.b.trans (h.2.below.mono hS.b.size)⟩, h.2.below, h.2.below.size⟩))); (case putti8 => (first | (simp only [Act.put, List.setIfInBounds_toArray, List.set_cons_zero, List.set_cons_succ]; first | done | exact rfl) | rfl)); (case' nextti8 => skip))
          (refine' GG.grow_lit (GG.BelL.still) rfl ?wtti9 ?runti9 ?putti9 ?nextti9; (case wtti9 => rfl); (case runti9 => (intro w' hS; (obtain ⟨dn, s, hS⟩ := hS); (have pc := keep hS.b PC.out); (have pl := World.block_lt_of_cell? _ _ pc); (have qc := keep hS.b QC.out); (have ql := World.block_lt_of_cell? _ _ qc); (have a0 := keep hS.b A0.out); (have al := World.block_lt_of_cell? _ _ a0); (have a1 := keep hS.b A1.out); (have b0 := keep hS.b B0.out); (have bl := World.block_lt_of_cell? _ _ b0); (have b1 := keep hS.b B1.out); (obtain ⟨⟨wkb, wkb2⟩, hne, hne2⟩ := WK.out); clear hS; go_simp; first | done | exact rfl)); (case putti9 => (first | (simp only [Act.put, List.setIfInBounds_toArray, List.set_cons_zero, List.set_cons_succ]; first | done | exact rfl) | rfl)); (case' nextti9 => skip))
          (refine' GG.grow_lit (GG.BelL.still) rfl ?wtti10 ?runti10 ?putti10 ?nextti10; (case wtti10 => rfl); (case runti10 => (intro w' hS; (obtain ⟨dn, s, hS⟩ := hS); (have pc := keep hS.b PC.out); (have pl := World.block_lt_of_cell? _ _ pc); (have qc := keep hS.b QC.out); (have ql := World.block_lt_of_cell? _ _ qc); (have a0 := keep hS.b A0.out); (have al := World.block_lt_of_cell? _ _ a0); (have a1 := keep hS.b A1.out); (have b0 := keep hS.b B0.out); (have bl := World.block_lt_of_cell? _ _ b0); (have b1 := keep hS.b B1.out); (obtain ⟨⟨wkb, wkb2⟩, hne, hne2⟩ := WK.out); clear hS; go_simp; first | done | exact rfl)); (case putti10 => (first | (simp only [Act.put, List.setIfInBounds_toArray, List.set_cons_zero, List.set_cons_succ]; first | done | exact rfl) | rfl)); (case' nextti10 => skip))
          (refine' GG.grow_lit (GG.BelL.still) rfl ?wtti11 ?runti11 ?putti11 ?nextti11; (case wtti11 => rfl); (case runti11 => (intro w' hS; (obtain ⟨dn, s, hS⟩ := hS); (have pc := keep hS.b PC.out); (have pl := World.block_lt_of_cell? _ _ pc); (have qc := keep hS.b QC.out); (have ql := World.block_lt_of_cell? _ _ qc); (have a0 := keep hS.b A0.out); (have al := World.block_lt_of_cell? _ _ a0); (have a1 := keep hS.b A1.out); (have b0 := keep hS.b B0.out); (have bl := World.block_lt_of_cell? _ _ b0); (have b1 := keep hS.b B1.out); (obtain ⟨⟨wkb, wkb2⟩, hne, hne2⟩ := WK.out); clear hS; go_simp; first | done | exact rfl)); (case putti11 => (first | (simp only [Act.put, List.setIfInBounds_toArray, List.set_cons_zero, List.set_cons_succ]; first | done | exact rfl) | rfl)); (case' nextti11 => skip))
          (refine' GG.grow_lit (GG.BelL.still) rfl ?wtti12 ?runti12 ?putti12 ?nextti12; (case wtti12 => rfl); (case runti12 => (intro w' hS; (obtain ⟨dn, s, hS⟩ := hS); (have pc := keep hS.b PC.out); (have pl := World.block_lt_of_cell? _ _ pc); (have qc := keep hS.b QC.out); (have ql := World.block_lt_of_cell? _ _ qc); (have a0 := keep hS.b A0.out); (have al := World.block_lt_of_cell? _ _ a0); (have a1 := keep hS.b A1.out); (have b0 := keep hS.b B0.out); (have bl := World.block_lt_of_cell? _ _ b0); (have b1 := keep hS.b B1.out); (obtain ⟨⟨wkb, wkb2⟩, hne, hne2⟩ := WK.out); clear hS; go_simp; first | done | exact rfl)); (case putti12 => (first | (simp only [Act.put, List.setIfInBounds_toArray, List.set_cons_zero, List.set_cons_succ]; first | done | exact rfl) | rfl)); (case' nextti12 => skip))
          (refine' GG.grow_lit (GG.BelL.still) rfl ?wtti13 ?runti13 ?putti13 ?nextti13; (case wtti13 => rfl); (case runti13 => (intro w' hS; (obtain ⟨dn, s, hS⟩ := hS); (have pc := keep hS.b PC.out); (have pl := World.block_lt_of_cell? _ _ pc); (have qc := keep hS.b QC.out); (have ql := World.block_lt_of_cell? _ _ qc); (have a0 := keep hS.b A0.out); (have al := World.block_lt_of_cell? _ _ a0); (have a1 := keep hS.b A1.out); (have b0 := keep hS.b B0.out); (have bl := World.block_lt_of_cell? _ _ b0); (have b1 := keep hS.b B1.out); (obtain ⟨⟨wkb, wkb2⟩, hne, hne2⟩ := WK.out); clear hS; go_simp; first | done | exact rfl)); (case putti13 => (first | (simp only [Act.put, List.setIfInBounds_toArray, List.set_cons_zero, List.set_cons_succ]; first | done | exact rfl) | rfl)); (case' nextti13 => skip))
          (refine' GG.grow_lit (GG.BelL.still) rfl ?wtti14 ?runti14 ?putti14 ?nextti14; (case wtti14 => rfl); (case runti14 => (intro w' hS; (obtain ⟨dn, s, hS⟩ := hS); (have pc := keep hS.b PC.out); (have pl := World.block_lt_of_cell? _ _ pc); (have qc := keep hS.b QC.out); (have ql := World.block_lt_of_cell? _ _ qc); (have a0 := keep hS.b A0.out); (have al := World.block_lt_of_cell? _ _ a0); (have a1 := keep hS.b A1.out); (have b0 := keep hS.b B0.out); (have bl := World.block_lt_of_cell? _ _ b0); (have b1 := keep hS.b B1.out); (obtain ⟨⟨wkb, wkb2⟩, hne, hne2⟩ := WK.out); clear hS; go_simp; first | done | exact rfl)); (case putti14 => (first | (simp only [Act.put, List.setIfInBounds_toArray, List.set_cons_zero, List.set_cons_succ]; first | done | exact rfl) | rfl)); (case' nextti14 => skip))
          (refine' GG.grow_lit (GG.BelL.still) rfl ?wtti15 ?runti15 ?putti15 ?nextti15; (case wtti15 => rfl); (case runti15 => (intro w' hS; (obtain ⟨dn, s, hS⟩ := hS); (have pc := keep hS.b PC.out); (have pl := World.block_lt_of_cell? _ _ pc); (have qc := keep hS.b QC.out); (have ql := World.block_lt_of_cell? _ _ qc); (have a0 := keep hS.b A0.out); (have al := World.block_lt_of_cell? _ _ a0); (have a1 := keep hS.b A1.out); (have b0 := keep hS.b B0.out); (have bl := World.block_lt_of_cell? _ _ b0); (have b1 := keep hS.b B1.out); (obtain ⟨⟨wkb, wkb2⟩, hne, hne2⟩ := WK.out); clear hS; go_simp; first | done | exact rfl)); (case putti15 => (first | (simp only [Act.put, List.setIfInBounds_toArray, List.set_cons_zero, List.set_cons_succ]; first | done | exact rfl) | rfl)); (case' nextti15 => skip))
          (refine' GG.grow_lit (GG.BelL.still) rfl ?wtti16 ?runti16 ?putti16 ?nextti16; (case wtti16 => rfl); (case runti16 => (intro w' hS; (obtain ⟨dn, s, hS⟩ := hS); (have pc := keep hS.b PC.out); (have pl := World.block_lt_of_cell? _ _ pc); (have qc := keep hS.b QC.out); (have ql := World.block_lt_of_cell? _ _ qc); (have a0 := keep hS.b A0.out); (have al := World.block_lt_of_cell? _ _ a0); (have a1 := keep hS.b A1.out); (have b0 := keep hS.b B0.out); (have bl := World.block_lt_of_cell? _ _ b0); (have b1 := keep hS.b B1.out); (obtain ⟨⟨wkb, wkb2⟩, hne, hne2⟩ := WK.out); clear hS; go_simp; first | done | exact rfl)); (case putti16 => (first | (simp only [Act.put, List.setIfInBounds_toArray, List.set_cons_zero, List.set_cons_succ]; first | done | exact rfl) | rfl)); (case' nextti16 => skip))
          (refine' GG.grow_lit (GG.BelL.still) rfl ?wtti17 ?runti17 ?putti17 ?nextti17; (case wtti17 => rfl); (case runti17 => (intro w' hS; (obtain ⟨dn, s, hS⟩ := hS); (have pc := keep hS.b PC.out); (have pl := World.block_lt_of_cell? _ _ pc); (have qc := keep hS.b QC.out); (have ql := World.block_lt_of_cell? _ _ qc); (have a0 := keep hS.b A0.out); (have al := World.block_lt_of_cell? _ _ a0); (have a1 := keep hS.b A1.out); (have b0 := keep hS.b B0.out); (have bl := World.block_lt_of_cell? _ _ b0); (have b1 := keep hS.b B1.out); (obtain ⟨⟨wkb, wkb2⟩, hne, hne2⟩ := WK.out); clear hS; go_simp; first | done | exact rfl)); (case putti17 => (first | (simp only [Act.put, List.setIfInBounds_toArray, List.set_cons_zero, List.set_cons_succ]; first | done | exact rfl) | rfl)); (case' nextti17 => skip))
          (refine' GG.grow_lit (GG.BelL.still) rfl ?wtti18 ?runti18 ?putti18 ?nextti18; (case wtti18 => rfl); (case runti18 => (intro w' hS; (obtain ⟨dn, s, hS⟩ := hS); (have pc := keep hS.b PC.out); (have pl := World.block_lt_of_cell? _ _ pc); (have qc := keep hS.b QC.out); (have ql := World.block_lt_of_cell? _ _ qc); (have a0 := keep hS.b A0.out); (have al := World.block_lt_of_cell? _ _ a0); (have a1 := keep hS.b A1.out); (have b0 := keep hS.b B0.out); (have bl := World.block_lt_of_cell? _ _ b0); (have b1 := keep hS.b B1.out); (obtain ⟨⟨wkb, wkb2⟩, hne, hne2⟩ := WK.out); clear hS; go_simp; first | done | exact rfl)); (case putti18 => (first | (simp only [Act.put, List.setIfInBounds_toArray, List.set_cons_zero, List.set_cons_succ]; first | done | exact rfl) | rfl)); (case' nextti18 => skip))
          (refine' GG.grow_lit (GG.BelL.still) rfl ?wtti19 ?runti19 ?putti19 ?nextti19; (case wtti19 => rfl); (case runti19 => (intro w' hS; (obtain ⟨dn, s, hS⟩ := hS); (have pc := keep hS.b PC.out); (have pl := World.block_lt_of_cell? _ _ pc); (have qc := keep hS.b QC.out); (have ql := World.block_lt_of_cell? _ _ qc); (have a0 := keep hS.b A0.out); (have al := World.block_lt_of_cell? _ _ a0); (have a1 := keep hS.b A1.out); (have b0 := keep hS.b B0.out); (have bl := World.block_lt_of_cell? _ _ b0); (have b1 := keep hS.b B1.out); (obtain ⟨⟨wkb, wkb2⟩, hne, hne2⟩ := WK.out); clear hS; go_simp; first | done | exact rfl)); (case putti19 => (first | (simp only [Act.put, List.setIfInBounds_toArray, List.set_cons_zero, List.set_cons_succ]; first | done | exact rfl) | rfl)); (case' nextti19 => skip))
          (refine' GG.grow_lit (GG.BelL.still) rfl ?wtti20 ?runti20 ?putti20 ?nextti20; (case wtti20 => rfl); (case runti20 => (intro w' hS; (obtain ⟨dn, s, hS⟩ := hS); (have pc := keep hS.b PC.out); (have pl := World.block_lt_of_cell? _ _ pc); (have qc := keep hS.b QC.out); (have ql := World.block_lt_of_cell? _ _ qc); (have a0 := keep hS.b A0.out); (have al := World.block_lt_of_cell? _ _ a0); (have a1 := keep hS.b A1.out); (have b0 := keep hS.b B0.out); (have bl := World.block_lt_of_cell? _ _ b0); (have b1 := keep hS.b B1.out); (obtain ⟨⟨wkb, wkb2⟩, hne, hne2⟩ := WK.out); clear hS; go_simp; first | done | exact rfl)); (case putti20 => (first | (simp only [Act.put, List.setIfInBounds_toArray, List.set_cons_zero, List.set_cons_succ]; first | done | exact rfl) | rfl)); (case' nextti20 => skip))
          (refine' GG.grow_lit_call (u := .int .i64 kb) rfl Try.func10 (by kernel_rfl) rfl rfl ?wtti21 ?runti21 ?putti21 ?nextti21; (case wtti21 => rfl); (case runti21 => (intro dn s w' hS hd H; exact (key_is xb yb d w' SB.out HKB.out).mono (fun e w2 h => ⟨(), h.1, ⟨hS.b.trans (h.2.below.mono hS.b.size)⟩, h.2.below, h.2.below.size⟩))); (case putti21 => (first | (simp only [Act.put, List.setIfInBounds_toArray, List.set_cons_zero, List.set_cons_succ]; first | done | exact rfl) | rfl)); (case' nextti21 => skip))
          (refine' GG.grow_lit (GG.BelL.still) rfl ?wtti22 ?runti22 ?putti22 ?nextti22; (case wtti22 => rfl); (case runti22 => (intro w' hS; (obtain ⟨dn, s, hS⟩ := hS); (have pc := keep hS.b PC.out); (have pl := World.block_lt_of_cell? _ _ pc); (have qc := keep hS.b QC.out); (have ql := World.block_lt_of_cell? _ _ qc); (have a0 := keep hS.b A0.out); (have al := World.block_lt_of_cell? _ _ a0); (have a1 := keep hS.b A1.out); (have b0 := keep hS.b B0.out); (have bl := World.block_lt_of_cell? _ _ b0); (have b1 := keep hS.b B1.out); (obtain ⟨⟨wkb, wkb2⟩, hne, hne2⟩ := WK.out); clear hS; go_simp; first | done | exact rfl)); (case putti22 => (first | (simp only [Act.put, List.setIfInBounds_toArray, List.set_cons_zero, List.set_cons_succ]; first | done | exact rfl) | rfl)); (case' nextti22 => skip))
          (refine' GG.grow_lit (GG.BelL.still) rfl ?wtti23 ?runti23 ?putti23 ?nextti23; (case wtti23 => rfl); (case runti23 => (intro w' hS; (obtain ⟨dn, s, hS⟩ := hS); (have pc := keep hS.b PC.out); (have pl := World.block_lt_of_cell? _ _ pc); (have qc := keep hS.b QC.out); (have ql := World.block_lt_of_cell? _ _ qc); (have a0 := keep hS.b A0.out); (have al := World.block_lt_of_cell? _ _ a0); (have a1 := keep hS.b A1.out); (have b0 := keep hS.b B0.out); (have bl := World.block_lt_of_cell? _ _ b0); (have b1 := keep hS.b B1.out); (obtain ⟨⟨wkb, wkb2⟩, hne, hne2⟩ := WK.out); clear hS; go_simp; first | done | exact rfl)); (case putti23 => (first | (simp only [Act.put, List.setIfInBounds_toArray, List.set_cons_zero, List.set_cons_succ]; first | done | exact rfl) | rfl)); (case' nextti23 => skip))
          intro dn s w8 hS _ _
          have hb := hS.b
          clear hS DS0
          have HB_ := Lib.hid (bOn6 HB.out hb)
          have HE_ := Lib.hid (HE.out.below hb)
          have HMI_ := Lib.hid (HMI.out.below hb)
          have HNI_ := Lib.hid (HNI.out.below hb)
          have HDB_ := Lib.hid (bOn6 HDB.out hb)
          have HKp_ := Lib.hid (HKp.out.below hb)
          have HKq_ := Lib.hid (HKq.out.below hb)
          have HIB_ := Lib.hid (bOn6 HIB.out hb)
          clear HB HE HMI HNI HDB HKp HKq HIB
          have HB := HB_
          have HE := HE_
          have HMI := HMI_
          have HNI := HNI_
          have HDB := HDB_
          have HKp := HKp_
          have HKq := HKq_
          have HIB := HIB_
          clear HB_ HE_ HMI_ HNI_ HDB_ HKp_ HKq_ HIB_
          clear hb
          go_wp2_with fail
          go_roundw
          case rel => exact ⟨i + 1, hlt2, by go_num, HIB.out⟩
          case measure => simp [intOf]; omega
set_option maxRecDepth 100000 in
theorem lineTurned_walks : WalksP 5 Try.f5 := by
  intro H enc W args ds g
  obtain ⟨ps, hA⟩ := g.reads
  obtain ⟨base, hval⟩ := g.okay
  rw [Try.params5] at hA hval
  obtain ⟨v0, vs0, d0, ds0, p0, q0, hargs, rfl, rfl, h0, r0⟩ := trodAll_cons hA
  obtain ⟨rfl, rfl, rfl⟩ := trodAll_nil r0
  obtain rfl : args = #[v0] := Array.toList_inj.1 hargs
  obtain ⟨x0, w0, u0⟩ := open_edges (hval 0 22 v0 rfl rfl) h0
  exact turned_walk v0 x0 W w0 u0

theorem lineTurned_row : Rows.LineTurnedSaid :=
  OpenClaim.holds_of_wide 5 Try.f5 rfl rfl rfl rfl rfl rfl rfl ⟨rfl, rfl, rfl, rfl, rfl⟩ rfl rfl rfl rfl rfl (by kernel_rfl) Try.func5 (by kernel_rfl)
    (of_decide_eq_true (by kernel_rfl)) (by unfold Func.isWrapper; rw [if_neg (of_decide_eq_false (by kernel_rfl))]; exact ⟨rfl, rfl⟩)
    (fun os started H enc _ => law_plain (s := Rows.lineTurnedSpec) Try.func5 (by kernel_rfl) rfl (by kernel_rfl)
      (fun H ds hl => by
        rw [Try.params5] at hl
        match ds, hl with
        | [_], _ => exact ⟨rfl, rfl, rfl⟩)
      (by kernel_rfl) os started H enc
      (ChangeSpec.witness6 (enc := enc) (C := Try.checked) false ⟨#[], #[.slice none 0 0], []⟩ 8 (by kernel_rfl) (by kernel_rfl) (by kernel_rfl) (by kernel_rfl))
      lineTurned_walks)
#print axioms lineTurned_row
end Go.Proofs.Ytleheaffipokfaa
